"""Points 12 to 14: taking crates out, and putting them in order."""

import copy
import itertools
import random
import unittest

from coldcrates.errors import InvalidLayout, InvalidNames, InvalidPairs
from coldcrates.stores import Store, layouts
from coldcrates.taking import is_sorted, least_sorting, least_steps, takings

STORE = Store(((5, 2), (3, 2)), ("fig", "jam", "kiwi"))
LAYOUT = ("jam", "fig", "kiwi", None)
FIVE = Store(((4, 1), (4, 2), (7, 2), (1, 1)), ("a", "b", "c", "d", "e"))
FULL = Store(((5, 2), (3, 1)), ("a", "b", "c"))

SMALL_STORES = [
    Store(((5, 2), (3, 1)), ("a", "b")), Store(((1, 1), (2, 1), (3, 1)), ("a", "b")), Store(((2, 3),), ("a", "b")),
    Store(((2, 1), (2, 1), (2, 1)), ("a", "b")), Store(((9, 1), (1, 2)), ("a", "b")), Store(((3, 1), (5, 2)), ("a",)),
    Store(((1, 2), (2, 2)), ("a", "b")), Store(((4, 2), (1, 1), (1, 1)), ("a", "b", "c")), FULL,
]


def door_of(store, place):
    return [door for door in range(len(store)) if place in store.places_of(door)][0]


def tried_takings(store, layout, names, pairs):
    told = []
    for order in itertools.permutations(names):
        if any(order.index(one) > order.index(other) for one, other in pairs if one in names and other in names):
            continue
        warmth = 0
        still = None
        for name in order:
            door = door_of(store, layout.index(name))
            if door != still:
                warmth += store.doors[door][0]
            still = door
        told.append((warmth, order))
    return min(told) if told else None


def all_lists(store, layout, most):
    """Yield all lists of steps with at most so much warmth, as tuples (warmth, length, steps, layout)."""
    waiting = [(0, 0, [], layout)]
    while waiting:
        told = waiting.pop()
        yield told
        warmth, length, steps, lying = told
        for start, name in enumerate(lying):
            for goal, other in enumerate(lying):
                if name is None or other is not None:
                    continue
                doors = {door_of(store, start), door_of(store, goal)}
                later = warmth + sum(store.doors[door][0] for door in doors)
                put = list(lying)
                put[start], put[goal] = None, name
                if later <= most:
                    waiting.append((later, length + 1, steps + [(name, goal)], tuple(put)))


def put_by(layout, step):
    put = list(layout)
    put[layout.index(step[0])], put[step[1]] = None, step[0]
    return tuple(put)


def steps_from(store, layout):
    """Return a dict from all steps in a layout to their warmth, ascending."""
    told = {}
    for name in store.crates:
        for goal, other in enumerate(layout):
            if other is None:
                doors = {door_of(store, layout.index(name)), door_of(store, goal)}
                told[(name, goal)] = sum(store.doors[door][0] for door in doors)
    return told


def warmth_to(store, goal):
    """Return a dict from all layouts to the least warmth and number of steps to a goal, by trying again and again."""
    least = {goal: (0, 0)}
    changed = True
    while changed:
        changed = False
        for layout in layouts(store):
            for step, warmth in steps_from(store, layout).items():
                if put_by(layout, step) in least:
                    behind = least[put_by(layout, step)]
                    told = (behind[0] + warmth, behind[1] + 1)
                    if layout not in least or told < least[layout]:
                        least[layout] = told
                        changed = True
    return least


def first_list(store, layout, goal, least):
    """Return the least list of steps to a goal among those that are as good as can be."""
    steps = []
    while layout != goal:
        warmth, many = least[layout]
        step = min(step for step, more in steps_from(store, layout).items()
                   if least[put_by(layout, step)] == (warmth - more, many - 1))
        steps.append(step)
        layout = put_by(layout, step)
    return steps


def ascends(layout):
    names = [name for name in layout if name]
    return all(one < other for one, other in zip(names, names[1:]))


class TakingsTest(unittest.TestCase):
    def test_trial_of_all_orders(self):
        rng = random.Random(1)
        for store in (STORE, FIVE):
            found = list(layouts(store))
            for _ in range(150):
                layout = rng.choice(found)
                names = rng.sample(store.crates, rng.randrange(len(store.crates) + 1))
                pairs = tuple(tuple(rng.sample(store.crates, 2)) for _ in range(rng.choice([0, 0, 1, 2, 3, 5])))
                expected = tried_takings(store, layout, names, pairs)
                self.assertEqual(takings(store, layout, tuple(names), pairs), expected, (layout, names, pairs))

    def test_no_names(self):
        self.assertEqual(takings(STORE, LAYOUT, (), ()), (0, ()))
        self.assertEqual(takings(STORE, LAYOUT, (), (("fig", "jam"), ("jam", "fig"))), (0, ()))

    def test_one_name(self):
        self.assertEqual(takings(STORE, LAYOUT, ("kiwi",), ()), (3, ("kiwi",)))
        self.assertEqual(takings(STORE, LAYOUT, ("fig",), (("fig", "jam"), ("jam", "fig"))), (5, ("fig",)))

    def test_door_stays_open(self):
        self.assertEqual(takings(STORE, LAYOUT, ("jam", "fig"), ()), (5, ("fig", "jam")))
        # Between jam and fig another door has to be opened.
        pairs = (("jam", "kiwi"), ("kiwi", "fig"))
        self.assertEqual(takings(STORE, LAYOUT, ("fig", "jam", "kiwi"), pairs), (13, ("jam", "kiwi", "fig")))

    def test_first_of_several(self):
        self.assertEqual(takings(STORE, LAYOUT, ("kiwi", "jam", "fig"), ()), (8, ("fig", "jam", "kiwi")))
        self.assertEqual(takings(STORE, LAYOUT, ("kiwi", "jam"), (("kiwi", "jam"),)), (8, ("kiwi", "jam")))
        lying = ("fig", "kiwi", "jam", None)
        self.assertEqual(takings(STORE, lying, ("fig", "jam", "kiwi"), ()), (8, ("fig", "kiwi", "jam")))

    def test_rings(self):
        names = ("fig", "jam", "kiwi")
        self.assertIsNone(takings(STORE, LAYOUT, names, (("fig", "jam"), ("jam", "fig"))))
        self.assertIsNone(takings(STORE, LAYOUT, names, (("fig", "jam"), ("jam", "kiwi"), ("kiwi", "fig"))))

    def test_pairs_that_tell_nothing(self):
        ring = (("fig", "jam"), ("jam", "kiwi"), ("kiwi", "fig"))
        self.assertEqual(takings(STORE, LAYOUT, ("fig", "jam"), ring), (5, ("fig", "jam")))
        self.assertEqual(takings(STORE, LAYOUT, ("fig", "kiwi"), ring), (8, ("kiwi", "fig")))
        self.assertEqual(takings(STORE, LAYOUT, ("fig",), ring), (5, ("fig",)))

    def test_pair_told_twice(self):
        self.assertEqual(takings(STORE, LAYOUT, ("fig", "jam"), (("jam", "fig"),) * 2), (5, ("jam", "fig")))

    def test_wrong_names(self):
        for names in (("fig", "fig"), ("plum",), ("fig", "plum"), ("fig", "jam", "fig"), (None,), (True,), ("",), (0,),
                      ["fig"], (["fig"],), "fig", None):
            with self.subTest(names=names), self.assertRaises(InvalidNames):
                takings(STORE, LAYOUT, names, ())

    def test_wrong_pairs(self):
        good = ("fig", "jam")
        for wrong in (("fig", "fig"), ("fig", "plum"), ("plum", "fig"), ("plum", "plum"), ("fig", None), (True, "fig"),
                      ("fig",), (), ("fig", "jam", "kiwi"), ["fig", "jam"], "fig", None):
            for at in range(3):
                pairs = (good,) * at + (wrong, good, wrong)
                for names in (("fig", "jam"), ()):
                    with self.subTest(pairs=pairs), self.assertRaises(InvalidPairs) as caught:
                        takings(STORE, LAYOUT, names, pairs)
                    self.assertEqual(caught.exception.index, at)

    def test_order_of_errors(self):
        with self.assertRaises(InvalidLayout):
            takings(STORE, ("jam", "fig", "kiwi"), ("plum",), (("plum", "fig"),))
        with self.assertRaises(InvalidNames):
            takings(STORE, LAYOUT, ("plum",), (("plum", "fig"),))


class LeastStepsTest(unittest.TestCase):
    def test_trial_of_all_lists(self):
        for store in SMALL_STORES:
            for layout in layouts(store):
                for goal in list(layouts(store))[::3]:
                    told = least_steps(store, layout, goal)
                    if told is None:
                        self.assertTrue(len(store.crates) == store.size and layout != goal)
                        continue
                    lists = [some[:3] for some in all_lists(store, layout, told[0]) if some[3] == goal]
                    warmth, _, steps = min(lists)
                    self.assertEqual(told, (warmth, steps), (store.doors, layout, goal))

    def test_the_same(self):
        self.assertEqual(least_steps(STORE, LAYOUT, LAYOUT), (0, []))
        self.assertEqual(least_steps(FULL, ("b", "a", "c"), ("b", "a", "c")), (0, []))

    def test_none(self):
        self.assertIsNone(least_steps(FULL, ("b", "a", "c"), ("a", "b", "c")))

    def test_one_door_or_two(self):
        store = Store(((5, 2), (3, 2)), ("a",))
        self.assertEqual(least_steps(store, ("a", None, None, None), (None, "a", None, None)), (5, [("a", 1)]))
        self.assertEqual(least_steps(store, (None, None, "a", None), (None, None, None, "a")), (3, [("a", 3)]))
        self.assertEqual(least_steps(store, ("a", None, None, None), (None, None, None, "a")), (8, [("a", 3)]))

    def test_doors_of_the_same_warmth_are_two(self):
        store = Store(((5, 1), (5, 1)), ("a",))
        self.assertEqual(least_steps(store, ("a", None), (None, "a")), (10, [("a", 1)]))

    def test_least_of_several(self):
        store = Store(((2, 4),), ("a", "b"))
        told = least_steps(store, ("a", "b", None, None), ("b", "a", None, None))
        self.assertEqual(told, (6, [("a", 2), ("b", 0), ("a", 1)]))
        told = least_steps(store, (None, None, "b", "a"), ("a", "b", None, None))
        self.assertEqual(told, (4, [("a", 0), ("b", 1)]))

    def test_large_stores(self):
        rng = random.Random(2)
        for store in (FIVE, Store(((3, 2), (1, 4)), ("a", "b", "c")), Store(((2, 3), (3, 3)), ("a", "b", "c", "d"))):
            found = list(layouts(store))
            goal = rng.choice(found)
            least = warmth_to(store, goal)
            for layout in rng.sample(found, 40):
                warmth, steps = least_steps(store, layout, goal)
                self.assertEqual((warmth, len(steps)), least[layout], (layout, goal))
                self.assertEqual(steps, first_list(store, layout, goal, least), (layout, goal))

    def test_errors(self):
        for wrong in (("jam", "fig", "kiwi"), ("jam", "fig", "fig", None), (None,) * 4, list(LAYOUT), None):
            with self.assertRaises(InvalidLayout):
                least_steps(STORE, wrong, LAYOUT)
            with self.assertRaises(InvalidLayout):
                least_steps(STORE, LAYOUT, wrong)


class SortedTest(unittest.TestCase):
    def test_all_layouts(self):
        for store in SMALL_STORES + [STORE]:
            for layout in layouts(store):
                self.assertEqual(is_sorted(store, layout), ascends(layout))

    def test_examples(self):
        self.assertIs(is_sorted(STORE, LAYOUT), False)
        self.assertIs(is_sorted(STORE, ("fig", None, "jam", "kiwi")), True)
        self.assertIs(is_sorted(Store(((5, 2),), ("jam",)), (None, "jam")), True)
        self.assertIs(is_sorted(FULL, ("a", "c", "b")), False)

    def test_error(self):
        for wrong in (("jam", "fig", "kiwi"), ("fig", "fig", "kiwi", None), None):
            with self.assertRaises(InvalidLayout):
                is_sorted(STORE, wrong)


class LeastSortingTest(unittest.TestCase):
    def test_trial_of_all_lists(self):
        for store in SMALL_STORES:
            for layout in layouts(store):
                told = least_sorting(store, layout)
                if told is None:
                    self.assertTrue(len(store.crates) == store.size and not ascends(layout))
                    continue
                lists = [some for some in all_lists(store, layout, told[0]) if ascends(some[3])]
                warmth, _, steps, behind = min(lists, key=lambda some: some[:3])
                self.assertEqual(told, (warmth, steps, behind), (store.doors, layout))

    def test_trial_beside_least_steps(self):
        goals = [goal for goal in layouts(STORE) if ascends(goal)]
        for layout in layouts(STORE):
            told = [least_steps(STORE, layout, goal) + (goal,) for goal in goals]
            expected = min(told, key=lambda some: (some[0], len(some[1]), some[1]))
            self.assertEqual(least_sorting(STORE, layout), expected)

    def test_in_order_already(self):
        self.assertEqual(least_sorting(FULL, ("a", "b", "c")), (0, [], ("a", "b", "c")))
        layout = ("fig", None, "jam", "kiwi")
        self.assertEqual(least_sorting(STORE, layout), (0, [], layout))

    def test_none(self):
        self.assertIsNone(least_sorting(FULL, ("b", "a", "c")))

    def test_shortest_of_several(self):
        # Two steps behind the same door have the same warmth as one between two doors.
        store = Store(((1, 3), (1, 1)), ("a", "b"))
        told = least_sorting(store, ("b", None, "a", None))
        self.assertEqual(told, (2, [("b", 3)], (None, None, "a", "b")))
        store = Store(((3, 1), (2, 1), (1, 2)), ("a", "b", "c"))
        told = least_sorting(store, ("b", "c", None, "a"))
        self.assertEqual(told, (11, [("b", 2), ("a", 0), ("c", 3)], ("a", None, "b", "c")))

    def test_where_a_place_ends_up_free(self):
        # One step is enough in several ways: the least step counts, not the layout behind it.
        store = Store(((2, 2), (2, 2)), ("a", "b"))
        told = least_sorting(store, (None, "b", "a", None))
        self.assertEqual(told, (4, [("a", 0)], ("a", "b", None, None)))
        told = least_sorting(Store(((2, 4),), ("a", "b")), ("b", "a", None, None))
        self.assertEqual(told, (2, [("b", 2)], (None, "a", "b", None)))

    def test_least_warmth_ahead_of_few_steps(self):
        store = Store(((2, 2), (2, 2)), ("a", "b"))
        told = least_sorting(store, ("b", None, None, "a"))
        self.assertEqual(told, (6, [("a", 2), ("b", 3)], (None, None, "a", "b")))
        store = Store(((1, 3), (9, 1)), ("a", "b"))
        told = least_sorting(store, ("b", None, "a", None))
        self.assertEqual(told, (2, [("a", 1), ("b", 2)], (None, "a", "b", None)))

    def test_error(self):
        with self.assertRaises(InvalidLayout):
            least_sorting(STORE, ("fig", "fig", "kiwi", None))


class PlainTest(unittest.TestCase):
    """Point 1: returned lists may be changed, and a second call returns the same."""

    def test_unchanged_and_repeated(self):
        goal = ("fig", "jam", "kiwi", None)
        for call in (lambda: least_steps(STORE, LAYOUT, goal), lambda: least_sorting(STORE, LAYOUT)):
            told = call()
            before = copy.deepcopy(told)
            told[1].clear()
            self.assertEqual(call(), before)
        self.assertEqual(takings(STORE, LAYOUT, ("fig",), ()), takings(STORE, LAYOUT, ("fig",), ()))
        self.assertIsInstance(least_steps(STORE, LAYOUT, goal), tuple)


if __name__ == "__main__":
    unittest.main()
