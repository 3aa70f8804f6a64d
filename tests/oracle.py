"""What the document says of deeds and logs, tried out one by one, to compare the package with."""

import itertools

from coldcrates.stores import layouts


def can_be(store, deed, one, other):
    """Tell whether one layout can become the other by a deed."""
    changed = [place for place in range(store.size) if one[place] != other[place]]
    lying = {one[place] for place in changed}
    if deed[0] == "shuffle":
        return set(changed) <= set(store.places_of(deed[1]))
    if deed[0] == "swap":
        return len(changed) == 2 and lying == {deed[1], deed[2]}
    if len(changed) != 2 or lying != {deed[1], None}:
        return False
    return deed[0] == "move" or changed[1] - changed[0] == 1


def agrees(store, layout, sighting):
    """Tell whether a sighting is right in a layout."""
    lying = [layout[place] for place in store.places_of(sighting[1])]
    return all(name is not None if mark == "?" else name == mark for mark, name in zip(sighting[2], lying))


def all_stories(store, log):
    """Return all tuples of layouts that a log allows: one at the beginning and one behind each deed."""
    found = [(layout,) for layout in layouts(store)]
    for entry in log:
        if entry[0] == "open":
            found = [told for told in found if agrees(store, told[-1], entry)]
        else:
            found = [told + (layout,) for told in found for layout in layouts(store)
                     if can_be(store, entry, told[-1], layout)]
    return found


def tried_fewest_wrong(store, log):
    """Return the shortest tuple of sightings without which there is a story, or None."""
    sightings = [at for at, entry in enumerate(log) if entry[0] == "open"]
    for many in range(len(sightings) + 1):
        for indexes in itertools.combinations(sightings, many):
            if all_stories(store, [entry for at, entry in enumerate(log) if at not in indexes]):
                return indexes
    return None


def tried_first_wrong(store, log):
    """Return the least number of items of a log with which there is no story, or None."""
    for many in range(len(log) + 1):
        if not all_stories(store, log[:many]):
            return many
    return None
