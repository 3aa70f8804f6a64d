"""A keeper who sees which doors are opened, and what it can tell about the crates."""

from coldcrates.deeds import exchanged
from coldcrates.errors import InvalidSight, NoLayout
from coldcrates.finding import is_row
from coldcrates.logs import SIGHT, agrees, is_sighting, some_now
from coldcrates.stores import in_order
from coldcrates.taking import all_steps


def doors_of_step(store, layout, step):
    """Return the door where the crate lies and the one where it is put, or just the one if it is the same."""
    name, place = step
    start, goal = store.door_of(layout.index(name)), store.door_of(place)
    return (start,) if start == goal else (start, goal)


class Keeper:
    """A keeper who sees only which doors are opened while somebody makes steps."""

    def __init__(self, store, log):
        found = some_now(store, log)
        self._store = store
        self._layouts = tuple(found)
        # Each way is a layout possible now, and the crate that the last step told moved, or None.
        self._ways = [(layout, None) for layout in found]
        self._calls = ()

    @property
    def layouts_left(self):
        """The tuple of all layouts that are possible, in order."""
        return self._layouts

    @property
    def seen_so_far(self):
        """The list of all accepted calls."""
        return list(self._calls)

    def saw(self, seen):
        """Take in the doors of a step, and return how many layouts are possible then."""
        if not is_row(self._store, seen) or len(seen) not in (1, 2):
            raise InvalidSight("these are neither one nor two different doors")
        ways = {}
        for layout in self._layouts:
            for name, place in all_steps(layout):
                if doors_of_step(self._store, layout, (name, place)) == seen:
                    ways[(exchanged(layout, layout.index(name), place), name)] = True
        return self._accept(list(ways), ("saw", seen))

    def inspected(self, door, seen):
        """Take in what lies behind a door, and return how many layouts are possible then."""
        sighting = (SIGHT, door, seen)
        if not is_sighting(self._store, sighting):
            raise InvalidSight("this is no sighting")
        ways = [(layout, name) for layout, name in self._ways if agrees(self._store, layout, sighting)]
        return self._accept(ways, ("inspected", door, seen))

    def could_have_moved(self):
        """Return the ascending list of the crates that the last step told can have moved."""
        return sorted({name for _, name in self._ways if name is not None})

    def next_doors(self):
        """Return the ascending list of all tuples of doors that the next step can open."""
        store = self._store
        return sorted({doors_of_step(store, layout, step) for layout in self._layouts for step in all_steps(layout)})

    def _accept(self, ways, call):
        """Go on with other ways behind a call, and return how many layouts are possible then."""
        if len(ways) == 0:
            raise NoLayout("no layout would be possible")
        self._ways = ways
        self._layouts = tuple(in_order(list({layout: True for layout, _ in ways})))
        self._calls = self._calls + (call,)
        return len(self._layouts)
