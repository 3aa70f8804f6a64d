"""Choices of some parts out of several, and their order."""


def subsets(parts):
    """Return the list of all tuples of some items of an ascending tuple, in tuple order."""
    if len(parts) == 0:
        return [()]
    others = subsets(parts[1:])
    with_first = [parts[:1] + some for some in others]
    return [()] + with_first + others[1:]


def length_and_items(chosen):
    """Return a tuple by which tuples are ordered, shorter ones first."""
    return (len(chosen), chosen)
