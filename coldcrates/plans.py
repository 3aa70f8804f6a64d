"""Plans of crates that come and go, and the places that cost the least warmth."""

from coldcrates.errors import InvalidPlan
from coldcrates.stores import all_layouts, warmth_in_turn

MOST_IN_PLAN = 8


def check_plan(store, plan):
    """Raise InvalidPlan with the first tuple that cannot be done, or is superfluous."""
    expected = {name: "in" for name in store.crates}
    for at, (word, name) in enumerate(plan):
        if at >= MOST_IN_PLAN or name not in expected or word != expected[name]:
            raise InvalidPlan(at)
        expected[name] = "out" if word == "in" else "in"


def least_plan(store, plan):
    """Return the least warmth of a plan, and the least tuple of places by which it is enough."""
    check_plan(store, plan)
    return least_of(store, moving_places(store, plan))


def least_of(store, ways):
    """Return the least warmth of some tuples of places, and the least such tuple."""
    return min([(warmth_in_turn(store, [store.door_of(place) for place in places]), places) for places in ways])


def moving_places(store, plan):
    """Return the list of all tuples of places for a plan, a crate being put in any free place."""
    ways = [((), (None,) * store.size)]
    for word, name in plan:
        ways = [
            (places + (place,), replaced(lying, place, name if word == "in" else None))
            for places, lying in ways
            for place in allowed(lying, word, name)
        ]
    return [places for places, _ in ways]


def allowed(lying, word, name):
    """Return the list of the places where a crate can be put, or of the one where it lies."""
    sought = None if word == "in" else name
    return [place for place, other in enumerate(lying) if other == sought]


def replaced(lying, place, name):
    """Return what lies in all places, with a crate or None in one of them."""
    return lying[:place] + (name,) + lying[place + 1:]


def least_fixed(store, plan):
    """Return what least_plan does, if each crate has a place of its own."""
    check_plan(store, plan)
    # A layout is just a choice of an own place for each crate.
    ways = [tuple([layout.index(name) for _, name in plan]) for layout in all_layouts(store)]
    return least_of(store, ways)


def worth_moving(store, plan):
    """Return by how much the warmth is less if the crates have no places of their own."""
    return least_fixed(store, plan)[0] - least_plan(store, plan)[0]
