"""Points 17 and 18: the warmth hour by hour, and openings that keep a limit."""

import copy
import itertools
import random
import unittest

from coldcrates.errors import InvalidDay, InvalidNumber, InvalidOpenings
from coldcrates.hours import best_openings, first_thaw, hours_for, warmths
from coldcrates.stores import Store

STORE = Store(((5, 2), (3, 1)), ("fig", "plum"))
ONE = Store(((7, 1),), ("fig",))
FOUR = Store(((9, 1), (4, 2), (20, 1), (1, 1)), ("fig",))
FAR = 10 ** 18
WRONG_COOLINGS = [0, 100, -1, True, False, None, "1", 1.0]
WRONG_FAR = [-1, FAR + 1, True, False, None, "1", 1.0]
WRONG_HOURS = [2, -1, True, False, "0", 0.0, (), (0,)]
WRONG_DOORS = WRONG_HOURS + [None]


def tried_hours(store, cooling, day, many):
    """Return lists for so many hours: the door, its warmth before it falls, and all warmth at the end."""
    told = []
    warm = [0] * len(store)
    for hour in range(many):
        door = day[hour % len(day)]
        high = None
        if door is not None:
            warm[door] += store.doors[door][0]
            high = warm[door]
        warm = [max(some - cooling, 0) for some in warm]
        told.append((door, high, tuple(warm)))
    return told


def tried_hours_for(store, cooling, limit, openings):
    """Return the hours that openings take, tried hour by hour, None if one waits for ever."""
    warm = [0] * len(store)
    waiting = list(openings)
    hours = 0
    while waiting:
        warmth = store.doors[waiting[0]][0]
        if warm[waiting[0]] + warmth <= limit:
            warm[waiting.pop(0)] += warmth
        elif not any(warm):
            return None
        warm = [max(some - cooling, 0) for some in warm]
        hours += 1
    return hours


def tried_best(store, cooling, limit, openings):
    told = [(tried_hours_for(store, cooling, limit, order), order) for order in itertools.permutations(openings)]
    return None if told[0][0] is None else min(told)


def random_store(rng):
    doors = tuple((rng.choice([rng.randrange(1, 8), rng.randrange(1, 100)]), 1) for _ in range(rng.randrange(1, 5)))
    return Store(doors, ("a",))


def random_day(rng, store):
    return tuple(rng.choice([None] + list(range(len(store)))) for _ in range(rng.randrange(1, 13)))


class WarmthsTest(unittest.TestCase):
    def test_trial_of_hours(self):
        rng = random.Random(1)
        for _ in range(150):
            store = random_store(rng)
            day = random_day(rng, store)
            cooling = rng.choice([1, 2, 3, rng.randrange(1, 100)])
            told = tried_hours(store, cooling, day, 80)
            for count in range(1, 81):
                self.assertEqual(warmths(store, cooling, day, count), told[count - 1][2], (store.doors, cooling, day))

    def test_first_hours(self):
        told = [warmths(STORE, 2, (0, None), count) for count in range(6)]
        self.assertEqual(told, [(0, 0), (3, 0), (1, 0), (4, 0), (2, 0), (5, 0)])
        self.assertEqual([warmths(STORE, 1, (0, 1), count) for count in (1, 2, 3)], [(4, 0), (3, 2), (7, 1)])

    def test_no_hours(self):
        self.assertEqual(warmths(STORE, 2, (0, None), 0), (0, 0))
        self.assertEqual(warmths(FOUR, 1, (2,), 0), (0, 0, 0, 0))

    def test_not_below_zero(self):
        self.assertEqual(warmths(STORE, 99, (0, 1), 1), (0, 0))
        self.assertEqual(warmths(STORE, 99, (0, 1), FAR), (0, 0))
        self.assertEqual(warmths(STORE, 4, (0, None), 2), (0, 0))

    def test_far_away(self):
        self.assertEqual(warmths(STORE, 2, (0, None), FAR), (500000000000000000, 0))
        self.assertEqual(warmths(STORE, 2, (0, None), FAR - 1), (499999999999999999 + 3, 0))
        self.assertEqual(warmths(ONE, 7, (0,), FAR), (0,))
        self.assertEqual(warmths(ONE, 6, (0,), FAR), (FAR,))
        self.assertEqual(warmths(Store(((99, 1),), ("fig",)), 1, (0,), FAR), (98 * FAR,))

    def test_far_away_beside_a_trial(self):
        # What a day adds is always the same in the end, so that a trial of some days tells of all days.
        rng = random.Random(2)
        for _ in range(150):
            store = random_store(rng)
            day = random_day(rng, store)
            cooling = rng.choice([1, 2, rng.randrange(1, 100)])
            count = FAR - rng.randrange(13)
            days = count // len(day) - 50
            told = tried_hours(store, cooling, day, len(day) * 52)
            near = told[count - days * len(day) - 1][2]
            before = told[count - (days + 1) * len(day) - 1][2]
            expected = tuple(late + days * (late - early) for early, late in zip(before, near))
            self.assertEqual(warmths(store, cooling, day, count), expected, (store.doors, cooling, day, count))

    def test_days_of_one_and_twelve_hours(self):
        self.assertEqual(warmths(STORE, 1, (1,), 10), (0, 20))
        self.assertEqual(warmths(STORE, 1, (None,), 10), (0, 0))
        self.assertEqual(warmths(STORE, 1, (0,) * 12, 12), (48, 0))
        self.assertEqual(warmths(STORE, 1, (None,) * 11 + (1,), 24), (0, 2))

    def test_coolings(self):
        for cooling in (1, 99):
            self.assertEqual(warmths(ONE, cooling, (0,), 1), (max(0, 7 - cooling),))
        self.assertEqual(warmths(Store(((99, 1),), ("fig",)), 98, (0,), 3), (3,))
        for cooling in WRONG_COOLINGS:
            with self.subTest(cooling=cooling), self.assertRaises(InvalidNumber):
                warmths(STORE, cooling, (0,), 1)

    def test_wrong_counts(self):
        for count in WRONG_FAR:
            with self.subTest(count=count), self.assertRaises(InvalidNumber):
                warmths(STORE, 1, (0,), count)


class DayTest(unittest.TestCase):
    """InvalidDay of both functions."""

    def assert_wrong(self, day, index):
        for function in (warmths, first_thaw):
            with self.subTest(day=day, function=function), self.assertRaises(InvalidDay) as caught:
                function(STORE, 1, day, 1)
            self.assertEqual(caught.exception.index, index)

    def test_wrong_hours(self):
        for wrong in WRONG_HOURS:
            for at in range(12):
                self.assert_wrong((0, None, 1, 0, None, 1, 0, None, 1, 0, None)[:at] + (wrong, wrong), at)

    def test_no_hours(self):
        self.assert_wrong((), 0)

    def test_too_many_hours(self):
        self.assert_wrong((None,) * 13, 12)
        self.assert_wrong((0,) * 20, 12)
        self.assert_wrong((0,) * 13 + (2,), 12)
        self.assert_wrong((0,) * 12 + (2,), 12)
        self.assert_wrong((0,) * 11 + (2, 0, 0), 11)

    def test_order_of_errors(self):
        for function in (warmths, first_thaw):
            with self.assertRaises(InvalidNumber):
                function(STORE, 0, (), 1)
            with self.assertRaises(InvalidDay):
                function(STORE, 1, (2,), -1)


class FirstThawTest(unittest.TestCase):
    def test_trial_of_hours(self):
        rng = random.Random(3)
        for _ in range(400):
            store = random_store(rng)
            day = random_day(rng, store)
            cooling = rng.choice([1, 2, 3, rng.randrange(1, 100)])
            told = tried_hours(store, cooling, day, 60 * len(day))
            heights = sorted({high for _, high, _ in told if high is not None})
            for limit in [0] + [some + by for some in heights[:8] + heights[-3:] for by in (-1, 0, 1)]:
                found = [(at, door) for at, (door, high, _) in enumerate(told) if high is not None and high > limit]
                if found:
                    thaw = first_thaw(store, cooling, day, limit)
                    self.assertEqual(thaw, found[0], (store.doors, cooling, day, limit))

    def test_never(self):
        rng = random.Random(4)
        for _ in range(200):
            store = random_store(rng)
            day = random_day(rng, store)
            cooling = rng.choice([1, 2, 3, rng.randrange(1, 100)])
            told = tried_hours(store, cooling, day, 4 * len(day))
            ends = [told[days * len(day) - 1][2] for days in (3, 4)]
            if ends[0] == ends[1]:
                highest = max([high for _, high, _ in told if high is not None], default=0)
                self.assertIsNone(first_thaw(store, cooling, day, highest))
                self.assertIsNone(first_thaw(store, cooling, day, FAR))
                if highest > 0:
                    self.assertIsNotNone(first_thaw(store, cooling, day, highest - 1))

    def test_nothing_opened(self):
        self.assertIsNone(first_thaw(STORE, 1, (None,), 0))
        self.assertIsNone(first_thaw(STORE, 1, (None,) * 12, FAR))

    def test_before_it_falls(self):
        self.assertEqual(first_thaw(STORE, 99, (1, 0), 4), (1, 0))
        self.assertEqual(first_thaw(STORE, 99, (1, 0), 2), (0, 1))
        self.assertIsNone(first_thaw(STORE, 99, (1, 0), 5))

    def test_later_days(self):
        self.assertEqual(first_thaw(STORE, 2, (0, None), 7), (6, 0))
        self.assertEqual([first_thaw(STORE, 2, (0, None), limit) for limit in (4, 5, 6, 7, 8)],
                         [(0, 0), (2, 0), (4, 0), (6, 0), (8, 0)])
        self.assertEqual(first_thaw(Store(((5, 1), (7, 1)), ("fig",)), 1, (None, 0, 1), 8), (5, 1))

    def test_only_the_opened_door_counts(self):
        # Door 0 is warmer than the limit in hour 1 as well, but another one is opened in it.
        self.assertEqual(first_thaw(STORE, 1, (1, 0, 1, 0), 4), (1, 0))
        self.assertEqual(first_thaw(Store(((9, 1), (1, 1)), ("fig",)), 1, (0, 1), 9), (2, 0))

    def test_sooner_in_the_day_and_faster_later(self):
        # Door 0 is higher on the first days, door 1 rises faster and is later in the day.
        store = Store(((13, 1), (14, 1)), ("fig",))
        told = first_thaw(store, 6, (0, 1), 10 ** 6)
        found = [(at, door) for at, (door, high, _) in enumerate(tried_hours(store, 6, (0, 1), 10 ** 6))
                 if high > 10 ** 6]
        self.assertEqual(told, found[0])

    def test_far_away(self):
        self.assertEqual(first_thaw(STORE, 2, (0, None), FAR), ((FAR - 4) * 2, 0))
        self.assertEqual(first_thaw(ONE, 6, (0,), FAR), (FAR - 6, 0))
        self.assertEqual(first_thaw(ONE, 6, (0,), FAR - 1), (FAR - 7, 0))
        self.assertIsNone(first_thaw(ONE, 7, (0,), FAR))

    def test_limits(self):
        self.assertEqual(first_thaw(STORE, 99, (None, 1), 0), (1, 1))
        for limit in WRONG_FAR:
            with self.subTest(limit=limit), self.assertRaises(InvalidNumber):
                first_thaw(STORE, 1, (0,), limit)
        for cooling in WRONG_COOLINGS:
            with self.subTest(cooling=cooling), self.assertRaises(InvalidNumber):
                first_thaw(STORE, cooling, (0,), 1)


class HoursForTest(unittest.TestCase):
    def test_trial_of_hours(self):
        rng = random.Random(5)
        for _ in range(400):
            store = random_store(rng)
            openings = tuple(rng.randrange(len(store)) for _ in range(rng.randrange(7)))
            cooling = rng.choice([1, 2, 3, rng.randrange(1, 100)])
            for limit in (0, rng.randrange(200), max(door[0] for door in store.doors) + rng.randrange(5)):
                expected = tried_hours_for(store, cooling, limit, openings)
                self.assertEqual(hours_for(store, cooling, limit, openings), expected,
                                 (store.doors, cooling, limit, openings))

    def test_no_openings(self):
        self.assertEqual(hours_for(STORE, 1, 0, ()), 0)
        self.assertEqual(hours_for(STORE, 99, FAR, ()), 0)

    def test_one_opening(self):
        self.assertEqual(hours_for(STORE, 1, 5, (0,)), 1)
        self.assertIsNone(hours_for(STORE, 1, 4, (0,)))
        self.assertIsNone(hours_for(STORE, 1, 0, (1,)))

    def test_never_at_the_end(self):
        self.assertIsNone(hours_for(STORE, 1, 4, (1, 1, 0)))
        self.assertEqual(hours_for(STORE, 1, 5, (1, 1, 0)), 3)

    def test_six_openings(self):
        self.assertEqual(hours_for(STORE, 1, 5, (0,) * 6), 26)
        self.assertEqual(hours_for(STORE, 1, FAR, (0,) * 6), 6)
        self.assertEqual(hours_for(STORE, 5, 5, (0,) * 6), 6)
        self.assertEqual(hours_for(STORE, 4, 5, (0,) * 6), 6 + 5)

    def test_waiting(self):
        self.assertEqual(hours_for(STORE, 2, 6, (0, 0, 1)), 4)
        self.assertEqual(hours_for(STORE, 2, 6, (0, 1, 0)), 3)
        # The limit may be reached.
        self.assertEqual(hours_for(STORE, 1, 9, (0, 0)), 2)
        self.assertEqual(hours_for(STORE, 1, 8, (0, 0)), 3)


class BestOpeningsTest(unittest.TestCase):
    def test_trial_of_all_orders(self):
        rng = random.Random(6)
        for _ in range(150):
            store = random_store(rng)
            openings = tuple(rng.randrange(len(store)) for _ in range(rng.choice([0, 1, 2, 3, 4, 4, 5, 5])))
            cooling = rng.choice([1, 2, 3, rng.randrange(1, 100)])
            for limit in (rng.randrange(200), max(door[0] for door in store.doors) + rng.randrange(5)):
                self.assertEqual(best_openings(store, cooling, limit, openings),
                                 tried_best(store, cooling, limit, openings), (store.doors, cooling, limit, openings))

    def test_six_openings(self):
        for openings in ((0, 1, 2, 3, 0, 1), (2, 2, 2, 1, 1, 0), (3, 3, 3, 3, 3, 3)):
            for limit in (20, 21, 30, 19):
                self.assertEqual(best_openings(FOUR, 2, limit, openings), tried_best(FOUR, 2, limit, openings))

    def test_no_openings(self):
        self.assertEqual(best_openings(STORE, 1, 0, ()), (0, ()))

    def test_first_of_several(self):
        self.assertEqual(best_openings(STORE, 1, FAR, (1, 0, 1, 0)), (4, (0, 0, 1, 1)))
        self.assertEqual(best_openings(STORE, 2, 6, (0, 0, 1)), (3, (0, 1, 0)))
        self.assertEqual(best_openings(STORE, 1, 5, (1, 0)), (2, (0, 1)))

    def test_none(self):
        self.assertIsNone(best_openings(STORE, 1, 4, (1, 0)))
        self.assertIsNone(best_openings(STORE, 1, 0, (1,)))


class OpeningsTest(unittest.TestCase):
    """The errors of hours_for and best_openings."""

    def assert_wrong(self, openings, index):
        for function in (hours_for, best_openings):
            with self.subTest(openings=openings, function=function), self.assertRaises(InvalidOpenings) as caught:
                function(STORE, 1, 0, openings)
            self.assertEqual(caught.exception.index, index)

    def test_no_doors(self):
        for wrong in WRONG_DOORS:
            for at in range(6):
                self.assert_wrong((0, 1, 0, 1, 0)[:at] + (wrong, wrong), at)

    def test_too_many(self):
        self.assert_wrong((0,) * 7, 6)
        self.assert_wrong((0,) * 9, 6)
        self.assert_wrong((0,) * 6 + (2,), 6)
        self.assert_wrong((0,) * 7 + (2,), 6)
        self.assert_wrong((0,) * 5 + (2, 0, 0), 5)

    def test_numbers(self):
        for function in (hours_for, best_openings):
            for cooling in WRONG_COOLINGS:
                with self.subTest(cooling=cooling), self.assertRaises(InvalidNumber):
                    function(STORE, cooling, 10, ())
            for limit in WRONG_FAR:
                with self.subTest(limit=limit), self.assertRaises(InvalidNumber):
                    function(STORE, 1, limit, ())

    def test_order_of_errors(self):
        for function in (hours_for, best_openings):
            with self.assertRaises(InvalidNumber):
                function(STORE, 0, 10, (2,))
            with self.assertRaises(InvalidNumber):
                function(STORE, 1, -1, (2,))


class PlainTest(unittest.TestCase):
    """Point 1: what is handed in is not changed, and a second call returns the same."""

    def test_unchanged_and_repeated(self):
        told = [(warmths, 2, (0, None), 9), (first_thaw, 2, (0, None), 9), (hours_for, 2, 6, (0, 0, 1)),
                (best_openings, 2, 6, (0, 0, 1))]
        before = copy.deepcopy([rest for _, *rest in told])
        for function, *rest in told:
            self.assertEqual(function(STORE, *rest), function(STORE, *rest))
            self.assertIsInstance(function(STORE, *rest), tuple | int)
        self.assertEqual([rest for _, *rest in told], before)


if __name__ == "__main__":
    unittest.main()
