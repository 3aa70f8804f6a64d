"""Stores, and the layouts of the crates in them."""

from math import perm

from coldcrates.checks import is_number, is_word
from coldcrates.errors import InvalidLayout, InvalidStore, UnknownCrate, UnknownDoor, UnknownPlace

MOST_DOORS = 4
MOST_WARMTH = 99
MOST_BEHIND = 4
MOST_PLACES = 6
MOST_CRATES = 5


class Store:
    """Places behind doors, and the crates that lie in some of them."""

    def __init__(self, doors, crates):
        if not doors_fit(doors):
            raise InvalidStore("doors")
        self._places = places_behind(doors)
        self._size = sum([len(places) for places in self._places])
        if not crates_fit(crates, self._size):
            raise InvalidStore("crates")
        self._doors = doors
        self._crates = crates

    def __eq__(self, other):
        return isinstance(other, Store) and self._doors == other._doors and self._crates == other._crates

    def __len__(self):
        return len(self._doors)

    @property
    def doors(self):
        """The tuple of the doors, each one (warmth, places)."""
        return self._doors

    @property
    def crates(self):
        """The ascending tuple of the crates."""
        return self._crates

    @property
    def size(self):
        """The number of all places."""
        return self._size

    def door_of(self, place):
        """Return the door of a place."""
        check_place(self, place)
        door = 0
        while place not in self._places[door]:
            door += 1
        return door

    def places_of(self, door):
        """Return the tuple of the places behind a door."""
        check_door(self, door)
        return self._places[door]


def doors_fit(doors):
    """Tell whether a value can be the doors of a store."""
    if not isinstance(doors, tuple) or not 1 <= len(doors) <= MOST_DOORS:
        return False
    if not all([is_door(door) for door in doors]):
        return False
    return sum([door[1] for door in doors]) <= MOST_PLACES


def is_door(value):
    """Tell whether a value is a tuple (warmth, places)."""
    if not isinstance(value, tuple) or len(value) != 2:
        return False
    return is_number(value[0], 1, MOST_WARMTH) and is_number(value[1], 1, MOST_BEHIND)


def crates_fit(crates, size):
    """Tell whether a value can be the crates of a store with so many places."""
    if not isinstance(crates, tuple) or not 1 <= len(crates) <= min(MOST_CRATES, size):
        return False
    if not all([is_word(name) for name in crates]):
        return False
    return all([one < other for one, other in zip(crates, crates[1:])])


def places_behind(doors):
    """Return a tuple with the tuple of its places for each door."""
    found = []
    begin = 0
    for door in doors:
        end = begin + door[1]
        found.append(tuple(range(begin, end)))
        begin = end
    return tuple(found)


def layouts(store):
    """Yield all layouts of a store, in order."""
    for layout in all_layouts(store):
        yield layout


def all_layouts(store):
    """Return the list of all layouts of a store, in order."""
    return arrangements(store.crates, store.size - len(store.crates))


def arrangements(names, free):
    """Return the list of all orders of ascending names and so many free places, in order."""
    if len(names) == 0 and free == 0:
        return [()]
    found = []
    if free > 0:
        found.extend([(None,) + rest for rest in arrangements(names, free - 1)])
    for at, name in enumerate(names):
        others = names[:at] + names[at + 1:]
        found.extend([(name,) + rest for rest in arrangements(others, free)])
    return found


def in_order(found):
    """Return a list of layouts in tuple order, None ahead of all words."""
    return sorted(found, key=order_key)


def order_key(layout):
    """Return a tuple by which layouts are ordered."""
    # No name is empty, so the empty text comes ahead of all of them.
    return tuple([name or "" for name in layout])


def layout_count(store):
    """Return how many layouts a store has."""
    return perm(store.size, len(store.crates))


def is_layout(store, value):
    """Tell whether a value is a layout of a store."""
    if not isinstance(value, tuple) or len(value) != store.size:
        return False
    names = [name for name in value if name is not None]
    return all([isinstance(name, str) for name in names]) and sorted(names) == list(store.crates)


def check_layout(store, layout):
    """Raise InvalidLayout if this is no layout of a store."""
    if not is_layout(store, layout):
        raise InvalidLayout("this is no layout of the store")


def check_crate(store, name):
    """Raise UnknownCrate if a store has no such crate."""
    if name not in store.crates:
        raise UnknownCrate("the store has no such crate")


def check_place(store, place):
    """Raise UnknownPlace if a store has no such place."""
    if not is_number(place, 0, store.size - 1):
        raise UnknownPlace("the store has no such place")


def has_door(store, door):
    """Tell whether a store has a door of this number."""
    return is_number(door, 0, len(store) - 1)


def check_door(store, door):
    """Raise UnknownDoor if a store has no such door."""
    if not has_door(store, door):
        raise UnknownDoor("the store has no such door")


def warmth_of(store, doors):
    """Return the sum of the warmth of some doors."""
    return sum([store.doors[door][0] for door in doors])


def warmth_in_turn(store, doors):
    """Return the warmth of doors opened one after another, each one open until another one is opened."""
    opened = [door for at, door in enumerate(doors) if at == 0 or doors[at - 1] != door]
    return warmth_of(store, opened)


def place_of(store, layout, name):
    """Return the place in which a crate lies."""
    check_layout(store, layout)
    check_crate(store, name)
    return layout.index(name)


def behind(store, layout, door):
    """Return the tuple of what lies behind a door."""
    check_layout(store, layout)
    return contents(store, layout, door)


def contents(store, layout, door):
    """Return what lies behind a door in what surely is a layout."""
    return tuple([layout[place] for place in store.places_of(door)])
