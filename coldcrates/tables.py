"""Tables of what can lie where, and of what lies where."""

from coldcrates.logs import could_lie
from coldcrates.stores import check_layout, contents


def table(store, log):
    """Return a text with a row for each crate, with a sign for each place."""
    lying = could_lie(store, log)
    return "\n".join([f"{name} {signs(store, places)}" for name, places in lying.items()])


def signs(store, possible):
    """Return the signs for all places, told those where a crate can lie."""
    doors = [store.places_of(door) for door in range(len(store))]
    return "|".join(["".join([sign(place, possible) for place in places]) for places in doors])


def sign(place, possible):
    """Return the sign for a place, told those where a crate can lie."""
    if place not in possible:
        return "."
    return "#" if len(possible) == 1 else "+"


def shelf(store, layout):
    """Return a text with a row for each door, with what lies behind it."""
    check_layout(store, layout)
    return "\n".join([f"{door}: {in_words(contents(store, layout, door))}" for door in range(len(store))])


def in_words(lying):
    """Return what lies in some places as a row of words."""
    return " ".join([name or "-" for name in lying])
