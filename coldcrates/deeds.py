"""Deeds, and what they make of a layout."""

from coldcrates.errors import InvalidDeed
from coldcrates.stores import arrangements, check_layout, has_door, in_order


def after(store, layout, deed):
    """Return the list of all layouts that there can be behind a deed, in order."""
    check_layout(store, layout)
    if not is_deed(store, deed):
        raise InvalidDeed("this is no deed in the store")
    return outcomes(store, layout, deed)


def is_deed(store, value):
    """Tell whether a value is a deed in a store."""
    if not isinstance(value, tuple) or len(value) == 0:
        return False
    word, told = value[0], value[1:]
    if word == "shuffle":
        return len(told) == 1 and has_door(store, told[0])
    known = all([name in store.crates for name in told])
    if word == "swap":
        return len(told) == 2 and known and told[0] != told[1]
    return word in ("move", "near") and len(told) == 1 and known


def outcomes(store, layout, deed):
    """Return what after does, of what surely is a layout and a deed."""
    word = deed[0]
    if word == "shuffle":
        return shuffled(store, layout, deed[1])
    start = layout.index(deed[1])
    if word == "swap":
        return [exchanged(layout, start, layout.index(deed[2]))]
    goals = [place for place, name in enumerate(layout) if name is None]
    if word == "near":
        goals = [place for place in goals if abs(place - start) == 1]
    return in_order([exchanged(layout, start, goal) for goal in goals])


def exchanged(layout, one, other):
    """Return a layout with what lies in two places exchanged."""
    lying = list(layout)
    lying[one], lying[other] = lying[other], lying[one]
    return tuple(lying)


def shuffled(store, layout, door):
    """Return the list of all layouts in which just what lies behind a door is in some order."""
    places = store.places_of(door)
    begin, end = places[0], places[-1] + 1
    names = sorted([name for name in layout[begin:end] if name is not None])
    orders = arrangements(tuple(names), len(places) - len(names))
    return [layout[:begin] + order + layout[end:] for order in orders]
