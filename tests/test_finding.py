"""Points 8 to 11: which doors to open until a crate is found, or all is known."""

import copy
import itertools
import random
import unittest
from fractions import Fraction

from coldcrates.errors import InvalidLayout, InvalidLog, InvalidRow, NoLayout, TooMany, UnknownCrate
from coldcrates.finding import (best_search, doors_to_know, least_mean, least_to_know, least_warmth, next_door,
                                search)
from coldcrates.logs import now
from coldcrates.stores import Store, layouts

SMALL = Store(((5, 2), (3, 1)), ("jam", "kiwi"))
ALIKE = Store(((4, 1), (4, 1), (4, 1)), ("jam",))
THREE = Store(((5, 2), (3, 1), (2, 1)), ("jam", "kiwi"))
FOUR = Store(((7, 1), (3, 2), (2, 1), (6, 1)), ("fig", "jam"))
PLACES = Store(((6, 4), (1, 1)), ("jam", "kiwi"))
WIDE = Store(((5, 3), (3, 2)), ("a", "b", "c"))
BIG = Store(((5, 3), (3, 3)), ("a", "b", "c"))
WRONG = [("open", 0, ("jam", None)), ("open", 0, (None, "jam"))]
BAD = [("move", "jam"), ("move", "plum")]
KNOWN = [("open", 0, ("jam", None))]


def opening(store, layout, door):
    return tuple(layout[place] for place in store.places_of(door))


def all_rows(store):
    doors = range(len(store))
    return [row for many in range(len(store) + 1) for row in itertools.permutations(doors, many)]


def tried_search(store, layout, name, row):
    warmth = 0
    for door in row:
        warmth += store.doors[door][0]
        if name in opening(store, layout, door):
            return warmth
    return None


def tried_best_search(store, found, name):
    told = []
    for row in all_rows(store):
        warmth = [tried_search(store, layout, name, row) for layout in found]
        if None not in warmth:
            told.append((max(warmth), row))
    return min(told)


def all_choices(store, found, seen, is_over):
    """Yield all dicts from what was seen, door by door, to the door that is opened next."""
    if is_over(found, seen):
        yield {}
        return
    opened = [door for door, _ in seen]
    for door in range(len(store)):
        if door in opened:
            continue
        groups = {}
        for layout in found:
            groups.setdefault(seen + ((door, opening(store, layout, door)),), []).append(layout)
        parts = [list(all_choices(store, same, later, is_over)) for later, same in groups.items()]
        for some in itertools.product(*parts):
            chosen = {seen: door}
            for part in some:
                chosen.update(part)
            yield chosen


def warmth_by(store, layout, chosen):
    """Return the warmth until nothing more is chosen, in a layout."""
    seen = ()
    warmth = 0
    while seen in chosen:
        door = chosen[seen]
        warmth += store.doors[door][0]
        seen += ((door, opening(store, layout, door)),)
    return warmth


def tried_choices(store, found, is_over):
    """Return the warmth in the worst case, and the sum of all of it, for all ways to choose."""
    told = [[warmth_by(store, layout, chosen) for layout in found]
            for chosen in all_choices(store, found, (), is_over)]
    return [max(some) for some in told], [sum(some) for some in told]


def tried_doors_to_know(store, found):
    told = []
    for many in range(len(store) + 1):
        for doors in itertools.combinations(range(len(store)), many):
            seen = [tuple(opening(store, layout, door) for door in doors) for layout in found]
            if len(set(seen)) == len(found):
                told.append((sum(store.doors[door][0] for door in doors), doors))
    return min(told)


def tried_next_door(store, found):
    told = []
    for door, (warmth, _) in enumerate(store.doors):
        seen = [opening(store, layout, door) for layout in found]
        told.append((max(seen.count(one) for one in seen), warmth, door))
    return min(told)[2]


def random_logs(seed, many):
    """Return tuples of a store and a log by which at least one layout is possible."""
    rng = random.Random(seed)
    found = []
    while len(found) < many:
        size = rng.choice([2, 3, 3])
        doors = tuple((rng.randrange(1, 6), rng.choice([1, 1, 2])) for _ in range(size))
        places = sum(door[1] for door in doors)
        store = Store(doors, ("a", "b", "c")[:rng.randrange(1, min(places, 3) + 1)])
        log = []
        for _ in range(rng.randrange(3)):
            door = rng.randrange(size)
            marks = list(store.crates) + [None, None, "?"]
            log.append(("open", door, tuple(rng.choice(marks) for _ in store.places_of(door))))
        log.extend([("move", store.crates[0])] * rng.randrange(2))
        if 1 <= len(now(store, log)) <= 12:
            found.append((store, log))
    return found


class SearchTest(unittest.TestCase):
    def test_found_and_not_found(self):
        layout = ("jam", None, "kiwi")
        self.assertEqual(search(SMALL, layout, "kiwi", (1,)), 3)
        self.assertEqual(search(SMALL, layout, "kiwi", (1, 0)), 3)
        self.assertEqual(search(SMALL, layout, "jam", (1, 0)), 8)
        self.assertIsNone(search(SMALL, layout, "kiwi", (0,)))

    def test_empty_row(self):
        self.assertIsNone(search(SMALL, ("jam", None, "kiwi"), "kiwi", ()))
        self.assertIsNone(search(Store(((5, 1),), ("jam",)), ("jam",), "jam", ()))

    def test_all_rows(self):
        for store in (SMALL, THREE, FOUR):
            for layout in list(layouts(store))[::5]:
                for row in all_rows(store):
                    for name in store.crates:
                        self.assertEqual(search(store, layout, name, row), tried_search(store, layout, name, row))

    def test_wrong_rows(self):
        rows = [(0, 0), (0, 1, 0), (2,), (0, 2), (-1,), (True,), (0, True), (False,), ("0",), (None,), (0.0,), [0, 1],
                ([0],), "0", 0, None]
        for row in rows:
            with self.subTest(row=row), self.assertRaises(InvalidRow):
                search(SMALL, ("jam", None, "kiwi"), "jam", row)

    def test_order_of_errors(self):
        with self.assertRaises(InvalidLayout):
            search(SMALL, ("jam", None, None), "plum", (0, 0))
        with self.assertRaises(UnknownCrate):
            search(SMALL, ("jam", None, "kiwi"), "plum", (0, 0))
        with self.assertRaises(UnknownCrate):
            search(SMALL, ("jam", None, "kiwi"), None, ())


class BestSearchTest(unittest.TestCase):
    def test_trial_of_all_rows(self):
        for store, log in random_logs(1, 60):
            for name in store.crates:
                expected = tried_best_search(store, now(store, log), name)
                self.assertEqual(best_search(store, log, name), expected, (store.doors, log, name))

    def test_four_doors(self):
        logs = [[], [("open", 1, (None, None))], [("open", 0, ("?",)), ("near", "jam")],
                [("open", 3, ("fig",)), ("move", "fig")]]
        for log in logs:
            for name in FOUR.crates:
                self.assertEqual(best_search(FOUR, log, name), tried_best_search(FOUR, now(FOUR, log), name))

    def test_first_of_several(self):
        self.assertEqual(best_search(ALIKE, [], "jam"), (12, (0, 1, 2)))
        self.assertEqual(best_search(THREE, [], "jam"), (10, (0, 1, 2)))
        self.assertEqual(best_search(THREE, [("open", 1, (None,))], "jam"), (7, (0, 2)))

    def test_known_place(self):
        self.assertEqual(best_search(SMALL, KNOWN, "jam"), (5, (0,)))
        self.assertEqual(best_search(SMALL, KNOWN, "kiwi"), (3, (1,)))

    def test_errors(self):
        with self.assertRaises(InvalidLog) as caught:
            best_search(SMALL, BAD, "plum")
        self.assertEqual(caught.exception.index, 1)
        with self.assertRaises(UnknownCrate):
            best_search(SMALL, WRONG, "plum")
        with self.assertRaises(NoLayout):
            best_search(SMALL, WRONG, "jam")

    def test_many_layouts_are_allowed(self):
        self.assertEqual(best_search(BIG, [], "c"), (8, (0, 1)))


class LeastTest(unittest.TestCase):
    """least_warmth, least_mean and least_to_know."""

    def test_trial_of_all_choices(self):
        for store, log in random_logs(2, 50):
            found = now(store, log)
            for name in store.crates:
                def is_over(left, seen, name=name):
                    return any(name in what for _, what in seen)
                worst, sums = tried_choices(store, found, is_over)
                self.assertEqual(least_warmth(store, log, name), min(worst), (store.doors, log, name))
                told = least_mean(store, log, name)
                mean = Fraction(min(sums), len(found))
                self.assertEqual(told, (mean.numerator, mean.denominator), (store.doors, log, name))

    def test_trial_of_all_choices_to_know(self):
        for store, log in random_logs(3, 80):
            worst, _ = tried_choices(store, now(store, log), lambda left, seen: len(left) == 1)
            self.assertEqual(least_to_know(store, log), min(worst), (store.doors, log))

    def test_choice_by_what_was_seen(self):
        # Behind door 0 it is seen which of the two other doors is the right one: one of them stays shut.
        store = Store(((1, 1), (9, 1), (8, 1)), ("a", "b"))
        log = [("near", "b"), ("open", 2, ("?",))]
        self.assertEqual(now(store, log), [(None, "b", "a"), ("a", None, "b"), ("b", None, "a")])
        self.assertEqual(least_warmth(store, log, "b"), 10)
        self.assertEqual(least_mean(store, log, "b"), (20, 3))
        self.assertEqual(least_to_know(store, log), 1)
        self.assertEqual(best_search(store, log, "b"), (18, (0, 1, 2)))

    def test_known_place(self):
        self.assertEqual(least_warmth(SMALL, KNOWN, "kiwi"), 3)
        self.assertEqual(least_warmth(SMALL, KNOWN, "jam"), 5)
        self.assertEqual(least_mean(SMALL, KNOWN, "jam"), (5, 1))
        self.assertEqual(least_to_know(SMALL, KNOWN), 0)
        one = Store(((8, 1),), ("jam",))
        self.assertEqual([least_warmth(one, [], "jam"), least_mean(one, [], "jam")], [8, (8, 1)])
        self.assertEqual(least_to_know(one, []), 0)

    def test_known_door_and_unknown_place(self):
        # The place is not known, but the door is; the other crate tells nothing.
        log = [("open", 1, (None,))]
        self.assertEqual(least_warmth(PLACES, log, "jam"), 6)
        self.assertEqual(least_mean(PLACES, log, "jam"), (6, 1))
        self.assertEqual(least_to_know(PLACES, log), 6)

    def test_fractions(self):
        self.assertEqual(least_mean(ALIKE, [], "jam"), (8, 1))
        self.assertEqual(least_mean(Store(((4, 1), (1, 1)), ("jam",)), [], "jam"), (3, 1))
        self.assertEqual(least_mean(Store(((4, 1), (2, 1)), ("jam",)), [], "jam"), (4, 1))
        self.assertEqual(least_mean(Store(((3, 1), (2, 1)), ("jam",)), [], "jam"), (7, 2))
        self.assertEqual(least_mean(Store(((5, 2), (3, 2)), ("jam",)), [], "jam"), (11, 2))

    def test_layouts_count_once(self):
        # More stories lead to the layouts in which a lies behind door 0; each layout counts once.
        store = Store(((3, 2), (4, 1)), ("a",))
        log = [("shuffle", 0), ("shuffle", 0)]
        self.assertEqual(least_mean(store, log, "a"), (13, 3))

    def test_as_many_as_allowed(self):
        self.assertEqual(len(now(WIDE, [])), 60)
        found = now(WIDE, [])
        worst, sums = [], []
        for first, second in ((0, 1), (1, 0)):
            told = [tried_search(WIDE, layout, "b", (first, second)) for layout in found]
            worst.append(max(told))
            sums.append(Fraction(sum(told), 60))
        mean = min(sums)
        self.assertEqual(least_warmth(WIDE, [], "b"), min(worst))
        self.assertEqual(least_mean(WIDE, [], "b"), (mean.numerator, mean.denominator))
        self.assertEqual(least_to_know(WIDE, []), 8)

    def test_too_many(self):
        self.assertEqual(len(now(BIG, [])), 120)
        for function in (least_warmth, least_mean):
            with self.assertRaises(TooMany):
                function(BIG, [], "a")
        with self.assertRaises(TooMany):
            least_to_know(BIG, [])

    def test_both_sides_of_the_limit(self):
        # Random logs give numbers of layouts near the limit on both sides of it.
        rng = random.Random(5)
        sizes = set()
        while not {60, 61} <= sizes:
            log = [("open", 0, tuple(rng.choice(["?", None, "a", "b"]) for _ in range(3)))]
            log.extend(rng.choice([("near", "a"), ("near", "b"), ("swap", "a", "b"), ("move", "c"), ("shuffle", 1)])
                       for _ in range(rng.randrange(5)))
            many = len(now(BIG, log))
            if not 55 <= many <= 66 or many in sizes:
                continue
            sizes.add(many)
            for call in (lambda: least_warmth(BIG, log, "a"), lambda: least_mean(BIG, log, "a"),
                         lambda: least_to_know(BIG, log)):
                if many > 60:
                    self.assertRaises(TooMany, call)
                else:
                    call()

    def test_order_of_errors(self):
        for function in (least_warmth, least_mean):
            with self.assertRaises(InvalidLog) as caught:
                function(BIG, [("move", "a"), ("open", 0, ())], "plum")
            self.assertEqual(caught.exception.index, 1)
            with self.assertRaises(UnknownCrate):
                function(BIG, [], "plum")
            with self.assertRaises(UnknownCrate):
                function(SMALL, WRONG, "plum")
            with self.assertRaises(NoLayout):
                function(SMALL, WRONG, "jam")
            with self.assertRaises(TooMany):
                function(BIG, [], "a")
        with self.assertRaises(InvalidLog) as caught:
            least_to_know(BIG, BAD)
        self.assertEqual(caught.exception.index, 0)
        with self.assertRaises(NoLayout):
            least_to_know(SMALL, WRONG)


class DoorsToKnowTest(unittest.TestCase):
    def test_trial_of_all_doors(self):
        for store, log in random_logs(4, 120):
            self.assertEqual(doors_to_know(store, log), tried_doors_to_know(store, now(store, log)), (store.doors, log))

    def test_four_doors(self):
        for log in ([], [("open", 1, (None, None))], [("open", 0, ("?",)), ("near", "jam")]):
            self.assertEqual(doors_to_know(FOUR, log), tried_doors_to_know(FOUR, now(FOUR, log)))

    def test_nothing_to_know(self):
        self.assertEqual(doors_to_know(SMALL, KNOWN), (0, ()))
        self.assertEqual(doors_to_know(Store(((8, 1),), ("jam",)), []), (0, ()))

    def test_first_of_several(self):
        self.assertEqual(doors_to_know(ALIKE, []), (8, (0, 1)))
        # Doors 0 and 1 together tell as much as door 2 alone, with the same warmth, and come first in tuple order.
        store = Store(((2, 1), (2, 1), (4, 1)), ("a", "b"))
        log = [("open", 0, ("?",)), ("near", "a")]
        self.assertEqual(now(store, log), [(None, "a", "b"), ("b", None, "a"), ("b", "a", None)])
        self.assertEqual(doors_to_know(store, log), (4, (0, 1)))

    def test_least_warmth_ahead_of_few_doors(self):
        store = Store(((2, 1), (2, 1), (5, 1)), ("a", "b"))
        self.assertEqual(doors_to_know(store, [("open", 0, ("?",)), ("near", "a")]), (4, (0, 1)))
        store = Store(((2, 1), (2, 1), (3, 1)), ("a", "b"))
        self.assertEqual(doors_to_know(store, [("open", 0, ("?",)), ("near", "a")]), (3, (2,)))
        self.assertEqual(doors_to_know(Store(((3, 1), (1, 1), (2, 1)), ("a", "b", "c")), []), (3, (1, 2)))

    def test_many_layouts_are_allowed(self):
        self.assertEqual(doors_to_know(BIG, []), (8, (0, 1)))

    def test_errors(self):
        with self.assertRaises(InvalidLog) as caught:
            doors_to_know(SMALL, WRONG + [("move", "plum")])
        self.assertEqual(caught.exception.index, 2)
        with self.assertRaises(NoLayout):
            doors_to_know(SMALL, WRONG)


class NextDoorTest(unittest.TestCase):
    def test_trial_of_all_doors(self):
        for store, log in random_logs(6, 150):
            self.assertEqual(next_door(store, log), tried_next_door(store, now(store, log)), (store.doors, log))

    def test_least_warmth_of_several(self):
        self.assertEqual(next_door(Store(((4, 1), (3, 1)), ("jam",)), []), 1)
        self.assertEqual(next_door(Store(((3, 1), (4, 1)), ("jam",)), []), 0)
        self.assertEqual(next_door(SMALL, KNOWN), 1)

    def test_first_of_several(self):
        self.assertEqual(next_door(ALIKE, []), 0)
        self.assertEqual(next_door(ALIKE, [("open", 0, (None,))]), 1)
        self.assertEqual(next_door(ALIKE, [("open", 0, ("jam",))]), 0)

    def test_fewest_ahead_of_least_warmth(self):
        self.assertEqual(next_door(PLACES, []), 0)

    def test_many_layouts_are_allowed(self):
        self.assertEqual(next_door(BIG, []), tried_next_door(BIG, now(BIG, [])))

    def test_errors(self):
        with self.assertRaises(InvalidLog) as caught:
            next_door(SMALL, BAD)
        self.assertEqual(caught.exception.index, 1)
        with self.assertRaises(NoLayout):
            next_door(SMALL, WRONG)


class PlainTest(unittest.TestCase):
    """Point 1: what is handed in is not changed, and a second call returns the same."""

    def test_unchanged_and_repeated(self):
        log = [("open", 0, ("?", None)), ("move", "kiwi")]
        before = copy.deepcopy(log)
        for function in (least_to_know, doors_to_know, next_door):
            self.assertEqual(function(SMALL, log), function(SMALL, log))
        for function in (best_search, least_warmth, least_mean):
            self.assertEqual(function(SMALL, log, "jam"), function(SMALL, log, "jam"))
        self.assertEqual(log, before)
        log.append(("open", 1, ("jam",)))
        self.assertEqual(least_to_know(SMALL, log), 0)


if __name__ == "__main__":
    unittest.main()
