"""Points 21 and 22: crates that come and go."""

import copy
import itertools
import random
import unittest

from coldcrates.errors import InvalidPlan
from coldcrates.plans import least_fixed, least_plan, worth_moving
from coldcrates.stores import Store

STORE = Store(((5, 2), (3, 1)), ("fig", "plum"))
LINE = Store(((5, 1), (3, 1), (4, 1)), ("fig", "plum"))
SAME = Store(((3, 1), (3, 2), (3, 1)), ("a", "b", "c"))
FULL = Store(((9, 1), (2, 1), (4, 1)), ("a", "b", "c"))
LARGE = Store(((7, 2), (2, 1), (5, 2), (3, 1)), ("a", "b", "c", "d", "e"))
SMALL_STORES = [STORE, LINE, SAME, FULL, Store(((1, 1),), ("a",)), Store(((8, 1), (3, 1)), ("a", "b")),
                Store(((6, 2), (4, 1), (5, 1)), ("a", "b", "c"))]
FUNCTIONS = [least_plan, least_fixed, worth_moving]


def doors_of(store):
    return [door for door in range(len(store)) for _ in store.places_of(door)]


def warmth_by(store, places):
    """Return the warmth of a tuple of places: a door costs nothing only directly behind itself."""
    doors = doors_of(store)
    warmth = 0
    still = None
    for place in places:
        if doors[place] != still:
            warmth += store.doors[doors[place]][0]
        still = doors[place]
    return warmth


def can_be_done(plan, places):
    lying = {}
    for (word, name), place in zip(plan, places):
        if word == "in" and place in lying.values():
            return False
        if word == "out" and lying.pop(name) != place:
            return False
        if word == "in":
            lying[name] = place
    return True


def is_fixed(plan, places):
    own = set(zip([name for _, name in plan], places))
    return len(own) == len({name for name, _ in own}) == len({place for _, place in own})


def tried(store, plan, fixed):
    """Return the least warmth and the least tuple of places, by trying all places for all tuples."""
    ways = [places for places in itertools.product(range(store.size), repeat=len(plan))
            if can_be_done(plan, places) and (not fixed or is_fixed(plan, places))]
    return min((warmth_by(store, places), places) for places in ways)


def some_plan(store, rng, length):
    """Return a plan of so many tuples that can be done."""
    there, plan = set(), []
    for _ in range(length):
        name = rng.choice(store.crates)
        plan.append(("out" if name in there else "in", name))
        there ^= {name}
    return tuple(plan)


class TrialTest(unittest.TestCase):
    def assert_as_tried(self, store, plan):
        moving, fixed = tried(store, plan, False), tried(store, plan, True)
        self.assertEqual(least_plan(store, plan), moving, (store.doors, plan))
        self.assertEqual(least_fixed(store, plan), fixed, (store.doors, plan))
        self.assertEqual(worth_moving(store, plan), fixed[0] - moving[0], (store.doors, plan))

    def test_all_places(self):
        rng = random.Random(1)
        for store in SMALL_STORES:
            for length in range(9):
                for _ in range(6 if length < 7 else 2):
                    self.assert_as_tried(store, some_plan(store, rng, length))

    def test_large_store(self):
        rng = random.Random(2)
        for length in (1, 2, 3, 4, 5):
            for _ in range(3):
                self.assert_as_tried(LARGE, some_plan(LARGE, rng, length))

    def test_longest_plans_of_a_large_store(self):
        rng = random.Random(3)
        for _ in range(10):
            plan = some_plan(LARGE, rng, 8)
            moving, fixed = least_plan(LARGE, plan), least_fixed(LARGE, plan)
            self.assertTrue(can_be_done(plan, moving[1]) and can_be_done(plan, fixed[1]) and is_fixed(plan, fixed[1]))
            self.assertEqual(moving[0], warmth_by(LARGE, moving[1]))
            self.assertEqual(fixed[0], warmth_by(LARGE, fixed[1]))
            self.assertEqual(worth_moving(LARGE, plan), fixed[0] - moving[0])
            self.assertGreaterEqual(worth_moving(LARGE, plan), 0)


class LeastPlanTest(unittest.TestCase):
    def test_empty(self):
        for store in SMALL_STORES:
            self.assertEqual(least_plan(store, ()), (0, ()))
            self.assertEqual(least_fixed(store, ()), (0, ()))
            self.assertEqual(worth_moving(store, ()), 0)

    def test_one(self):
        self.assertEqual(least_plan(STORE, (("in", "plum"),)), (3, (2,)))
        self.assertEqual(least_plan(STORE, (("in", "fig"), ("out", "fig"))), (3, (2, 2)))

    def test_least_tuple_of_places(self):
        self.assertEqual(least_plan(SAME, (("in", "a"),)), (3, (0,)))
        self.assertEqual(least_plan(SAME, (("in", "c"), ("in", "a"))), (3, (1, 2)))
        self.assertEqual(least_plan(Store(((4, 3),), ("a", "b")), (("in", "b"), ("in", "a"))), (4, (0, 1)))

    def test_door_still_open(self):
        plan = (("in", "fig"), ("out", "fig"), ("in", "fig"), ("out", "fig"))
        self.assertEqual(least_plan(STORE, plan), (3, (2, 2, 2, 2)))
        # Only the door opened last is open: going to and fro costs each time.
        plan = (("in", "a"), ("in", "b"), ("out", "a"), ("out", "b"))
        self.assertEqual(least_plan(Store(((8, 1), (3, 1)), ("a", "b")), plan), (22, (0, 1, 0, 1)))

    def test_comes_again_elsewhere(self):
        store = Store(((9, 1), (1, 1), (5, 1)), ("a", "b"))
        plan = (("in", "a"), ("out", "a"), ("in", "b"), ("in", "a"))
        self.assertEqual(least_plan(store, plan), (6, (1, 1, 1, 2)))
        self.assertEqual(least_fixed(store, plan), (7, (1, 1, 2, 1)))
        self.assertEqual(worth_moving(store, plan), 1)

    def test_more_crates_than_at_a_time(self):
        store = Store(((9, 1), (9, 1), (1, 1)), ("a", "b", "c"))
        plan = tuple((word, name) for name in ("a", "b", "c") for word in ("in", "out"))
        self.assertEqual(least_plan(store, plan), (1, (2,) * 6))
        self.assertEqual(least_fixed(store, plan), (19, (0, 0, 1, 1, 2, 2)))
        self.assertEqual(worth_moving(store, plan), 18)

    def test_kinds(self):
        for function in (least_plan, least_fixed):
            warmth, places = function(STORE, (("in", "fig"),))
            self.assertIs(type(warmth), int)
            self.assertIs(type(places), tuple)


class InvalidPlanTest(unittest.TestCase):
    def assert_wrong(self, plan, index):
        for function in FUNCTIONS:
            with self.subTest(plan=plan, function=function), self.assertRaises(InvalidPlan) as caught:
                function(STORE, plan)
            self.assertEqual(caught.exception.index, index)

    def test_other_words(self):
        for word in ("", "put", "IN", "open", None, True, 0, "inn"):
            self.assert_wrong(((word, "fig"),), 0)
            self.assert_wrong((("in", "fig"), (word, "fig"), (word, "fig")), 1)

    def test_unknown_crates(self):
        for name in ("jam", "", None, True, 0):
            for word in ("in", "out", None):
                self.assert_wrong(((word, name), ("out", "fig")), 0)
                self.assert_wrong((("in", "plum"), ("in", "fig"), (word, name)), 2)

    def test_comes_while_there(self):
        self.assert_wrong((("in", "fig"), ("in", "fig")), 1)
        self.assert_wrong((("in", "fig"), ("in", "plum"), ("out", "fig"), ("in", "plum"), ("in", "jam")), 3)

    def test_goes_while_not_there(self):
        self.assert_wrong((("out", "fig"), ("in", "jam")), 0)
        self.assert_wrong((("in", "fig"), ("out", "plum")), 1)
        self.assert_wrong((("in", "fig"), ("out", "fig"), ("out", "fig")), 2)

    def test_too_many(self):
        eight = (("in", "fig"), ("out", "fig")) * 4
        self.assertEqual(least_plan(STORE, eight), (3, (2,) * 8))
        self.assert_wrong(eight + (("in", "fig"),), 8)
        self.assert_wrong(eight + (("in", "fig"), ("out", "jam")), 8)
        self.assert_wrong(eight + (("in", "jam"),), 8)
        self.assert_wrong(eight[:7] + (("in", "fig"), ("in", "plum")), 7)


class PlainTest(unittest.TestCase):
    """Point 1: what is handed in is not changed, and a second call returns the same."""

    def test_unchanged_and_repeated(self):
        plan = (("in", "a"), ("in", "c"), ("out", "a"), ("in", "b"), ("in", "a"))
        before = copy.deepcopy(plan)
        for function in FUNCTIONS:
            self.assertEqual(function(SAME, plan), function(SAME, plan))
        self.assertEqual(plan, before)


if __name__ == "__main__":
    unittest.main()
