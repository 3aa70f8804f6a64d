"""Logs of deeds and sightings, and what they tell about the crates."""

from math import gcd

from coldcrates.choices import length_and_items
from coldcrates.deeds import is_deed, outcomes
from coldcrates.errors import InvalidLog, NoLayout
from coldcrates.stores import all_layouts, check_crate, check_door, contents, has_door, in_order

SIGHT = "open"
FROSTED = "?"


def is_sighting(store, value):
    """Tell whether a value is a sighting in a store."""
    if not isinstance(value, tuple) or len(value) != 3 or value[0] != SIGHT:
        return False
    door, seen = value[1], value[2]
    if not has_door(store, door) or not isinstance(seen, tuple):
        return False
    if len(seen) != len(store.places_of(door)):
        return False
    return all([mark is None or mark == FROSTED or mark in store.crates for mark in seen])


def check_log(store, log):
    """Raise InvalidLog if an item of a log is neither a deed nor a sighting."""
    for at, entry in enumerate(log):
        if not is_deed(store, entry) and not is_sighting(store, entry):
            raise InvalidLog(at)


def agrees(store, layout, sighting):
    """Tell whether a sighting is right in a layout."""
    lying = contents(store, layout, sighting[1])
    return all([fits(mark, name) for mark, name in zip(sighting[2], lying)])


def fits(mark, name):
    """Tell whether what lies in a place can have been seen as this mark."""
    if mark == FROSTED:
        return name is not None
    return mark == name


def counts_at_first(store):
    """Return a dict with one story for each layout."""
    return {layout: 1 for layout in all_layouts(store)}


def counts_behind(store, counts, entry):
    """Return a dict from each layout possible behind an item of a log to the number of its stories."""
    if entry[0] == SIGHT:
        return {layout: many for layout, many in counts.items() if agrees(store, layout, entry)}
    later = {}
    for layout, many in counts.items():
        for goal in outcomes(store, layout, entry):
            later[goal] = later.get(goal, 0) + many
    return later


def story_counts(store, log):
    """Return a dict from each layout possible now to the number of stories that lead to it."""
    check_log(store, log)
    counts = counts_at_first(store)
    for entry in log:
        counts = counts_behind(store, counts, entry)
    return counts


def now(store, log):
    """Return the list of all layouts possible at the end of a log, in order."""
    return in_order(list(story_counts(store, log)))


def stories(store, log):
    """Return how many tuples of layouts, at the beginning and behind each deed, there can have been."""
    counts = story_counts(store, log)
    return sum(list(counts.values()))


def first(store, log):
    """Return the list of all layouts that there can have been at the beginning of a log, in order."""
    check_log(store, log)
    left = all_layouts(store)
    for entry in reversed(log):
        left = ahead(store, left, entry)
    return left


def ahead(store, left, entry):
    """Return the list of all layouts from which an item of a log leads to one of those left, in order."""
    if entry[0] == SIGHT:
        return [layout for layout in left if agrees(store, layout, entry)]
    goals = {layout: True for layout in left}
    return [layout for layout in all_layouts(store) if leads(store, layout, entry, goals)]


def leads(store, layout, deed, goals):
    """Tell whether a deed can turn a layout into one that is a key of the goals."""
    return any([goal in goals for goal in outcomes(store, layout, deed)])


def some_now(store, log):
    """Return what now does, or raise NoLayout if that is nothing."""
    found = now(store, log)
    if len(found) == 0:
        raise NoLayout("no layout is possible now")
    return found


def could_lie(store, log):
    """Return a dict from each crate to the ascending tuple of the places where it can lie now."""
    found = some_now(store, log)
    return {name: places_in(found, name) for name in store.crates}


def places_in(found, name):
    """Return the ascending tuple of the places of a crate in a list of layouts."""
    return tuple(sorted({layout.index(name) for layout in found}))


def surely_lies(store, log):
    """Return a dict from each crate whose place is known now to that place."""
    lying = could_lie(store, log)
    return {name: places[0] for name, places in lying.items() if len(places) == 1}


def share(store, log, name, door):
    """Return the share of the layouts possible now in which a crate lies behind a door."""
    check_log(store, log)
    check_crate(store, name)
    check_door(store, door)
    found = some_now(store, log)
    places = store.places_of(door)
    many = len([layout for layout in found if layout.index(name) in places])
    return lowest_terms(many, len(found))


def lowest_terms(numerator, denominator):
    """Return a fraction in lowest terms, both numbers not below 0, the denominator not 0."""
    by = gcd(numerator, denominator)
    return (numerator // by, denominator // by)


def first_wrong(store, log):
    """Return by how many items from the beginning on no layout is possible, or None."""
    check_log(store, log)
    counts = counts_at_first(store)
    for at, entry in enumerate(log):
        counts = counts_behind(store, counts, entry)
        if len(counts) == 0:
            return at + 1
    return None


def fewest_wrong(store, log):
    """Return the shortest tuple of the indexes of sightings that can be the wrong ones, or None."""
    check_log(store, log)
    wrong = {layout: () for layout in all_layouts(store)}
    for at, entry in enumerate(log):
        if entry[0] == SIGHT:
            wrong = wrong_with(store, wrong, entry, at)
        else:
            wrong = wrong_behind(store, wrong, entry)
    return least_wrong(list(wrong.values()))


def wrong_with(store, wrong, sighting, at):
    """Return a dict from each layout to its wrong sightings, a further one among them."""
    return {
        layout: indexes if agrees(store, layout, sighting) else indexes + (at,)
        for layout, indexes in wrong.items()
    }


def wrong_behind(store, wrong, deed):
    """Return a dict from each layout possible behind a deed to the fewest wrong sightings ahead of it."""
    # One tuple for each layout is enough: what is wrong later does not depend on what was wrong before.
    later = {}
    for layout, indexes in wrong.items():
        for goal in outcomes(store, layout, deed):
            later[goal] = least_wrong([indexes, later.get(goal, indexes)])
    return later


def least_wrong(tuples):
    """Return the shortest of some tuples, of several the first one in tuple order, None if there is none."""
    return min(tuples, key=length_and_items, default=None)
