"""Point 25: a keeper who sees doors."""

import copy
import random
import unittest

from coldcrates.errors import InvalidLog, InvalidSight, NoLayout
from coldcrates.keepers import Keeper
from coldcrates.stores import Store, layouts
from tests.oracle import agrees, all_stories

STORE = Store(((5, 2), (3, 1)), ("fig", "plum"))
KNOWN = [("open", 0, ("plum", None))]
FULL = Store(((5, 2), (3, 1)), ("a", "b", "c"))
LINE = Store(((1, 1), (1, 1), (1, 1)), ("a", "b"))
STORES = [STORE, LINE, Store(((5, 2), (3, 2)), ("a", "b")), Store(((4, 1), (2, 3)), ("a", "b", "c")), FULL,
          Store(((1, 1), (1, 1), (2, 2)), ("a",)), Store(((2, 3),), ("a", "b"))]
WRONG_DOORS = [-1, 2, True, False, None, "0", 10 ** 18]


def step_between(store, one, other):
    """Return the crate that a step moves to turn a layout into another one, and its doors, None if no step does."""
    changed = [place for place in range(store.size) if one[place] != other[place]]
    if len(changed) != 2 or None not in [one[place] for place in changed]:
        return None
    start = changed[0] if one[changed[0]] else changed[1]
    goal = changed[0] + changed[1] - start
    if one[goal] is not None or other[start] is not None or one[start] != other[goal]:
        return None
    doors = (store.door_of(start), store.door_of(goal))
    return (one[start], doors if doors[0] != doors[1] else doors[:1])


class Trial:
    """All tuples of layouts that there can have been, each with the crates that the steps moved."""

    def __init__(self, store, log):
        self.store = store
        self.ways = [(told[-1:], ()) for told in all_stories(store, log)]

    def behind(self, call):
        """Return all ways behind a call."""
        if call[0] == "inspected":
            sighting = ("open",) + call[1:]
            return [way for way in self.ways if agrees(self.store, way[0][-1], sighting)]
        found = []
        for told, crates in self.ways:
            for layout in layouts(self.store):
                step = step_between(self.store, told[-1], layout)
                if step is not None and step[1] == call[1]:
                    found.append((told + (layout,), crates + step[:1]))
        return found

    def left(self):
        return tuple(layout for layout in layouts(self.store) if layout in {told[-1] for told, _ in self.ways})

    def moved(self):
        return sorted({crates[-1] for _, crates in self.ways if crates})

    def next_doors(self):
        pairs = [(layout, goal) for layout in self.left() for goal in layouts(self.store)]
        steps = [step_between(self.store, *pair) for pair in pairs]
        return sorted({step[1] for step in steps if step is not None})


def some_log(store, rng):
    log = []
    for _ in range(rng.choice([0, 0, 1, 2])):
        log.append(rng.choice([("move", rng.choice(store.crates)), ("shuffle", rng.randrange(len(store))),
                               some_sighting("open", store, rng)]))
    return log


def some_sighting(word, store, rng):
    """Return a sighting that is right in some layout, perhaps with frosted labels."""
    layout, door = rng.choice(list(layouts(store))), rng.randrange(len(store))
    names = [layout[place] for place in store.places_of(door)]
    return (word, door, tuple(rng.choice([name, name and "?"]) for name in names))


def some_call(store, rng):
    if rng.random() < 0.3:
        return some_sighting("inspected", store, rng)
    doors = rng.sample(range(len(store)), min(len(store), rng.choice([1, 2])))
    return ("saw", tuple(doors))


def told_by(keeper):
    return (keeper.layouts_left, keeper.seen_so_far, keeper.could_have_moved(), keeper.next_doors())


def call_on(keeper, call):
    return getattr(keeper, call[0])(*call[1:])


class TrialTest(unittest.TestCase):
    def test_all_layouts_and_steps(self):
        accepted, refused = 0, 0
        for seed in range(120):
            rng = random.Random(seed)
            store = rng.choice(STORES)
            log = some_log(store, rng)
            trial = Trial(store, log)
            if not trial.ways:
                with self.assertRaises(NoLayout):
                    Keeper(store, log)
                continue
            keeper, calls = Keeper(store, log), []
            for _ in range(5):
                expected = (trial.left(), calls, trial.moved(), trial.next_doors())
                self.assertEqual(told_by(keeper), expected, (seed, log, calls))
                call = some_call(store, rng)
                ways = trial.behind(call)
                if len(ways) > 20000:
                    break
                if ways:
                    trial.ways, calls = ways, calls + [call]
                    self.assertEqual(call_on(keeper, call), len(trial.left()), (seed, call))
                    accepted += 1
                else:
                    with self.assertRaises(NoLayout):
                        call_on(keeper, call)
                    refused += 1
            self.assertEqual(told_by(keeper), (trial.left(), calls, trial.moved(), trial.next_doors()))
        self.assertGreater(min(accepted, refused), 50)


class NewTest(unittest.TestCase):
    def test_one_layout(self):
        keeper = Keeper(STORE, KNOWN)
        self.assertEqual(told_by(keeper), ((("plum", None, "fig"),), [], [], [(0,), (1, 0)]))

    def test_several_layouts(self):
        keeper = Keeper(STORE, [("open", 1, ("?",))])
        self.assertEqual(keeper.layouts_left, ((None, "fig", "plum"), (None, "plum", "fig"), ("fig", None, "plum"),
                                               ("plum", None, "fig")))
        self.assertEqual(Keeper(STORE, []).layouts_left, tuple(layouts(STORE)))

    def test_deeds_in_the_log_are_no_steps_told(self):
        keeper = Keeper(STORE, KNOWN + [("move", "plum")])
        self.assertEqual(keeper.layouts_left, ((None, "plum", "fig"),))
        self.assertEqual(keeper.could_have_moved(), [])

    def test_no_layout(self):
        for log in (KNOWN * 2 + [("open", 1, (None,))], [("open", 0, ("fig", "fig"))]):
            with self.assertRaises(NoLayout):
                Keeper(STORE, log)
        with self.assertRaises(NoLayout):
            Keeper(FULL, [("move", "a")])

    def test_invalid_log_ahead_of_no_layout(self):
        with self.assertRaises(InvalidLog) as caught:
            Keeper(STORE, KNOWN + [("open", 1, (None,)), ("open", 1, ("jam",))])
        self.assertEqual(caught.exception.index, 2)


class SawTest(unittest.TestCase):
    def test_one_door(self):
        keeper = Keeper(STORE, KNOWN)
        self.assertEqual(keeper.saw((0,)), 1)
        self.assertEqual(keeper.layouts_left, ((None, "plum", "fig"),))
        self.assertEqual(keeper.could_have_moved(), ["plum"])

    def test_two_doors_in_both_orders(self):
        keeper = Keeper(STORE, [("open", 1, ("?",))])
        with self.assertRaises(NoLayout):
            keeper.saw((0, 1))
        self.assertEqual(keeper.saw((1, 0)), 2)
        self.assertEqual(keeper.layouts_left, (("fig", "plum", None), ("plum", "fig", None)))
        with self.assertRaises(NoLayout):
            keeper.saw((1, 0))
        self.assertEqual(keeper.saw((0, 1)), 4)

    def test_two_doors_are_no_one_door(self):
        keeper = Keeper(LINE, [("open", 0, ("a",)), ("open", 1, (None,))])
        for seen in ((0,), (1,), (2,), (0, 2), (1, 0), (1, 2)):
            with self.assertRaises(NoLayout):
                keeper.saw(seen)
        self.assertEqual(keeper.next_doors(), [(0, 1), (2, 1)])
        self.assertEqual(keeper.saw((2, 1)), 1)

    def test_no_free_place(self):
        keeper = Keeper(FULL, [])
        self.assertEqual(keeper.next_doors(), [])
        for seen in ((0,), (1,), (0, 1), (1, 0)):
            with self.assertRaises(NoLayout):
                keeper.saw(seen)

    def test_layouts_count_once(self):
        # Two crates behind a door can both have been moved there to and fro.
        keeper = Keeper(Store(((1, 3),), ("a", "b")), [])
        self.assertEqual([keeper.saw((0,)), keeper.saw((0,)), len(keeper.layouts_left)], [6, 6, 6])


class InspectedTest(unittest.TestCase):
    def test_frosted_labels_and_free_places(self):
        keeper = Keeper(STORE, [])
        self.assertEqual(keeper.inspected(0, ("?", None)), 2)
        self.assertEqual(keeper.layouts_left, (("fig", None, "plum"), ("plum", None, "fig")))
        self.assertEqual(keeper.inspected(1, ("plum",)), 1)
        self.assertEqual(keeper.seen_so_far, [("inspected", 0, ("?", None)), ("inspected", 1, ("plum",))])
        self.assertEqual(keeper.could_have_moved(), [])

    def test_crate_twice_is_never_right(self):
        with self.assertRaises(NoLayout):
            Keeper(STORE, []).inspected(0, ("fig", "fig"))


class CouldHaveMovedTest(unittest.TestCase):
    def test_before_and_behind_later_sightings(self):
        keeper = Keeper(STORE, [("open", 1, (None,))])
        self.assertEqual(keeper.could_have_moved(), [])
        self.assertEqual(keeper.saw((0, 1)), 4)
        self.assertEqual(keeper.could_have_moved(), ["fig", "plum"])
        keeper.inspected(1, ("?",))
        self.assertEqual(keeper.could_have_moved(), ["fig", "plum"])
        keeper.inspected(0, (None, "fig"))
        self.assertEqual(keeper.could_have_moved(), ["plum"])

    def test_only_the_last_step(self):
        keeper = Keeper(STORE, KNOWN)
        keeper.saw((0,))
        self.assertEqual(keeper.could_have_moved(), ["plum"])
        keeper.saw((1, 0))
        self.assertEqual(keeper.could_have_moved(), ["fig"])

    def test_what_is_seen_later_tells_of_the_layouts_before(self):
        keeper = Keeper(STORE, [])
        keeper.saw((0,))
        self.assertEqual(keeper.could_have_moved(), ["fig", "plum"])
        keeper.inspected(1, ("fig",))
        self.assertEqual(keeper.could_have_moved(), ["plum"])


class NextDoorsTest(unittest.TestCase):
    def test_in_order(self):
        store = Store(((1, 2), (1, 1), (1, 2)), ("a", "b"))
        every = [(0,), (0, 1), (0, 2), (1, 0), (1, 2), (2,), (2, 0), (2, 1)]
        self.assertEqual(Keeper(store, []).next_doors(), every)
        keeper = Keeper(store, [("open", 0, ("a", None)), ("open", 2, (None, None))])
        self.assertEqual(keeper.next_doors(), [(0,), (0, 2), (1, 0), (1, 2)])

    def test_each_can_be_seen_and_no_other(self):
        for log in ([], KNOWN, [("open", 0, ("?", "?"))]):
            for seen in ((0,), (1,), (0, 1), (1, 0)):
                keeper = Keeper(STORE, log)
                if seen in keeper.next_doors():
                    self.assertGreater(keeper.saw(seen), 0)
                else:
                    with self.assertRaises(NoLayout):
                        keeper.saw(seen)


class ErrorsTest(unittest.TestCase):
    """Each cause of each error, and that nothing changes then."""

    def setUp(self):
        self.keeper = Keeper(STORE, [("open", 1, ("?",))])
        self.keeper.saw((1, 0))
        self.keeper.inspected(1, (None,))
        self.before = told_by(self.keeper)

    def assert_raises(self, error, *call):
        with self.subTest(call=call), self.assertRaises(error):
            call_on(self.keeper, call)
        self.assertEqual(told_by(self.keeper), self.before)

    def test_saw(self):
        for door in WRONG_DOORS:
            for seen in ((door,), (0, door), (door, 1), (door, door)):
                self.assert_raises(InvalidSight, "saw", seen)
        for seen in ((), (0, 0), (1, 1), (0, 1, 0), (0, 1, 2), [0], [0, 1], None, 0):
            self.assert_raises(InvalidSight, "saw", seen)
        with self.assertRaises(InvalidSight):
            Keeper(LINE, []).saw((0, 1, 2))

    def test_inspected(self):
        for door in WRONG_DOORS:
            self.assert_raises(InvalidSight, "inspected", door, ("fig",))
        for door, seen in ((0, ("fig",)), (0, ("fig", None, None)), (1, ()), (1, ("fig", "plum")), (0, ("fig", "jam")),
                           (1, ("",)), (1, (True,)), (1, (0,)), (1, ["fig"]), (1, None), (1, "?"), (1, ("??",))):
            self.assert_raises(InvalidSight, "inspected", door, seen)

    def test_no_layout(self):
        for seen in ((1,), (1, 0)):
            self.assert_raises(NoLayout, "saw", seen)
        for door, seen in ((0, ("fig", None)), (0, (None, "?")), (1, ("?",)), (0, ("fig", "fig"))):
            self.assert_raises(NoLayout, "inspected", door, seen)

    def test_goes_on_behind_an_error(self):
        self.assert_raises(NoLayout, "saw", (1, 0))
        self.assertEqual(self.keeper.saw((0, 1)), 4)
        self.assertEqual(self.keeper.seen_so_far, [("saw", (1, 0)), ("inspected", 1, (None,)), ("saw", (0, 1))])


class PlainTest(unittest.TestCase):
    """Point 1: what is handed in is not changed or kept, what is returned may be changed."""

    def test_handed_in_log(self):
        log = [("open", 0, ("plum", None))]
        keeper = Keeper(STORE, log)
        self.assertEqual(log, KNOWN)
        log.append(("open", 1, (None,)))
        self.assertEqual(keeper.layouts_left, (("plum", None, "fig"),))
        self.assertEqual(keeper.saw((0,)), 1)

    def test_returned_lists(self):
        keeper = Keeper(STORE, [("open", 1, (None,))])
        keeper.saw((0, 1))
        before = copy.deepcopy(told_by(keeper))
        self.assertEqual([type(value) for value in before], [tuple, list, list, list])
        for value in told_by(keeper)[1:]:
            value.append("more")
            value.reverse()
        self.assertEqual(told_by(keeper), before)


if __name__ == "__main__":
    unittest.main()
