"""Points 15 and 16: hands, and which habits explain what was found."""

import copy
import itertools
import random
import unittest

from coldcrates.errors import InvalidHabits, InvalidHands, InvalidLayout, InvalidNumber
from coldcrates.hands import deeds_between, least_habits, who_could
from coldcrates.stores import Store, layouts
from tests.oracle import can_be

STORE = Store(((5, 2), (3, 2)), ("fig", "jam", "kiwi"))
ONE = ("jam", "fig", "kiwi", None)
OTHER = ("fig", "jam", "kiwi", None)
LINE = Store(((1, 1),) * 4, ("a",))
ROW = [("a", None, None, None), (None, "a", None, None), (None, None, "a", None), (None, None, None, "a")]
FULL = Store(((5, 2), (3, 1)), ("a", "b", "c"))
STORES = [STORE, LINE, FULL, Store(((5, 2), (3, 1)), ("a", "b")), Store(((2, 3),), ("a", "b")),
          Store(((2, 1), (4, 1)), ("a", "b")), Store(((1, 1),), ("a",))]
WORDS = ("move", "near", "shuffle", "swap")
ALL_HABITS = [some for many in range(5) for some in itertools.combinations(WORDS, many)]
WRONG_LAYOUTS = [("jam", "fig", "kiwi"), ("jam", "jam", "kiwi", None), (None,) * 4, list(ONE), None]
WRONG_NUMBERS = [-1, 4, True, False, 10 ** 18, "1", None, 1.0]
WRONG_HABITS = [("throw",), ("move", "move"), ("near", "move"), ("swap", "shuffle"), ("move", "near", "near"),
                ("shuffle", "swap", "near"), ("",), (None,), (True,), ("open",), ("Move",), ["move"], "move", None,
                ("move", ("near",)), (["move"],)]


def all_deeds(store, word):
    if word == "shuffle":
        return [(word, door) for door in range(len(store))]
    if word == "swap":
        return [(word,) + pair for pair in itertools.permutations(store.crates, 2)]
    return [(word, name) for name in store.crates]


def tried_numbers(store, habits, one, most):
    """Return a dict from all layouts that are reached to the least number of deeds."""
    deeds = [deed for word in habits for deed in all_deeds(store, word)]
    numbers = {one: 0}
    for many in range(most):
        for layout, number in list(numbers.items()):
            for goal in layouts(store):
                if number == many and goal not in numbers and any(can_be(store, deed, layout, goal) for deed in deeds):
                    numbers[goal] = many + 1
    return numbers


class DeedsBetweenTest(unittest.TestCase):
    def test_trial_of_all_deeds(self):
        rng = random.Random(1)
        for store in STORES:
            found = list(layouts(store))
            for habits in ALL_HABITS:
                one = rng.choice(found)
                for most in range(4):
                    numbers = tried_numbers(store, habits, one, most)
                    for other in found:
                        told = deeds_between(store, habits, one, other, most)
                        self.assertEqual(told, numbers.get(other), (habits, one, other, most))

    def test_each_word(self):
        self.assertEqual(deeds_between(STORE, ("swap",), ONE, OTHER, 2), 1)
        self.assertEqual(deeds_between(STORE, ("shuffle",), ONE, OTHER, 2), 1)
        self.assertEqual(deeds_between(STORE, ("move",), ONE, OTHER, 3), 3)
        self.assertIsNone(deeds_between(STORE, ("near",), ONE, OTHER, 3))
        self.assertEqual(deeds_between(STORE, ("near",), ONE, ("jam", "fig", None, "kiwi"), 1), 1)

    def test_numbers_of_deeds(self):
        for most in range(4):
            for far in range(4):
                expected = far if far <= most else None
                self.assertEqual(deeds_between(LINE, ("near",), ROW[0], ROW[far], most), expected)
                self.assertEqual(deeds_between(LINE, ("near",), ROW[far], ROW[0], most), expected)

    def test_the_same(self):
        for habits in ALL_HABITS:
            for most in range(4):
                self.assertEqual(deeds_between(STORE, habits, ONE, ONE, most), 0)

    def test_no_habits(self):
        self.assertIsNone(deeds_between(STORE, (), ONE, OTHER, 3))

    def test_several_words(self):
        goal = ("kiwi", None, "jam", "fig")
        self.assertIsNone(deeds_between(STORE, ("shuffle",), ONE, goal, 3))
        self.assertIsNone(deeds_between(STORE, ("move",), ONE, goal, 3))
        self.assertIsNone(deeds_between(STORE, ("swap",), ONE, goal, 3))
        self.assertEqual(deeds_between(STORE, ("move", "swap"), ONE, goal, 3), 2)

    def test_wrong_habits(self):
        for habits in WRONG_HABITS:
            with self.subTest(habits=habits), self.assertRaises(InvalidHabits):
                deeds_between(STORE, habits, ONE, OTHER, 1)

    def test_wrong_layouts(self):
        for wrong in WRONG_LAYOUTS:
            with self.assertRaises(InvalidLayout):
                deeds_between(STORE, (), wrong, OTHER, 1)
            with self.assertRaises(InvalidLayout):
                deeds_between(STORE, (), ONE, wrong, 1)

    def test_wrong_numbers(self):
        for most in WRONG_NUMBERS:
            with self.subTest(most=most), self.assertRaises(InvalidNumber):
                deeds_between(STORE, (), ONE, ONE, most)

    def test_order_of_errors(self):
        with self.assertRaises(InvalidHabits):
            deeds_between(STORE, ("throw",), None, None, 4)
        with self.assertRaises(InvalidLayout):
            deeds_between(STORE, (), ONE, None, 4)


class WhoCouldTest(unittest.TestCase):
    def test_none_one_and_several(self):
        hands = {"ann": ("move",), "bob": ("shuffle",)}
        self.assertEqual(who_could(STORE, {}, ONE, OTHER, 3), [])
        self.assertEqual(who_could(STORE, hands, ONE, OTHER, 0), [])
        self.assertEqual(who_could(STORE, hands, ONE, OTHER, 1), ["bob"])
        self.assertEqual(who_could(STORE, hands, ONE, OTHER, 3), ["ann", "bob"])
        self.assertEqual(who_could(STORE, {"zoe": ()}, ONE, OTHER, 3), [])
        self.assertEqual(who_could(STORE, {"zoe": ()}, ONE, ONE, 0), ["zoe"])

    def test_ascending(self):
        hands = {name: ("swap",) for name in ("zoe", "b", "ann", "bob", "abcdefgh", "ba")}
        self.assertEqual(who_could(STORE, hands, ONE, OTHER, 1), ["abcdefgh", "ann", "b", "ba", "bob", "zoe"])

    def test_trial_of_all_hands(self):
        rng = random.Random(2)
        names = ["hand" + letter for letter in "ponmlkjihgfedcba"]
        for store in STORES:
            for _ in range(4):
                found = list(layouts(store))
                one, other = rng.choice(found), rng.choice(found)
                for most in range(4):
                    hands = dict(zip(names, ALL_HABITS))
                    able = [name for name, habits in hands.items()
                            if other in tried_numbers(store, habits, one, most)]
                    self.assertEqual(who_could(store, hands, one, other, most), sorted(able))

    def test_wrong_names(self):
        for name in ("", "Ann", "a b", "abcdefghi", "ann1", "?", "b_", "-"):
            with self.subTest(name=name), self.assertRaises(InvalidHands) as caught:
                who_could(STORE, {"ann": (), name: (), "zoe": ()}, ONE, OTHER, 1)
            self.assertEqual(caught.exception.name, name)

    def test_wrong_habits(self):
        for habits in WRONG_HABITS:
            with self.subTest(habits=habits), self.assertRaises(InvalidHands) as caught:
                who_could(STORE, {"ann": (), "bob": habits}, ONE, OTHER, 1)
            self.assertEqual(caught.exception.name, "bob")

    def test_least_of_several(self):
        told = [
            ({"zoe": ("throw",), "bob": ("throw",), "ann": ()}, "bob"),
            ({"bob": ("throw",), "zoe": ("throw",)}, "bob"),
            ({"ann": ("throw",), "Zoe": ()}, "Zoe"),
            ({"Zoe": (), "ann": ("throw",)}, "Zoe"),
            ({"abcdefghij": (), "abc": ("swap", "move")}, "abc"),
            ({"x": None, "": ()}, ""),
            ({"zoe": ("near", "near"), "zo": ("near",), "~": ("near",)}, "zoe"),
        ]
        for hands, name in told:
            with self.subTest(hands=hands), self.assertRaises(InvalidHands) as caught:
                who_could(STORE, hands, ONE, OTHER, 1)
            self.assertEqual(caught.exception.name, name)

    def test_other_errors(self):
        for wrong in WRONG_LAYOUTS:
            with self.assertRaises(InvalidLayout):
                who_could(STORE, {}, wrong, OTHER, 1)
            with self.assertRaises(InvalidLayout):
                who_could(STORE, {}, ONE, wrong, 1)
        for most in WRONG_NUMBERS:
            with self.subTest(most=most), self.assertRaises(InvalidNumber):
                who_could(STORE, {}, ONE, OTHER, most)

    def test_order_of_errors(self):
        with self.assertRaises(InvalidHands):
            who_could(STORE, {"": ()}, None, None, 4)
        with self.assertRaises(InvalidLayout):
            who_could(STORE, {}, ONE, None, 4)


class LeastHabitsTest(unittest.TestCase):
    def test_trial_of_all_habits(self):
        rng = random.Random(3)
        for store in STORES:
            found = list(layouts(store))
            for _ in range(6):
                one = rng.choice(found)
                for most in range(4):
                    numbers = [(habits, tried_numbers(store, habits, one, most)) for habits in ALL_HABITS]
                    for other in found:
                        able = [habits for habits, told in numbers if other in told]
                        expected = able[0] if able else None
                        self.assertEqual(least_habits(store, one, other, most), expected, (one, other, most))

    def test_none_needed(self):
        for most in range(4):
            self.assertEqual(least_habits(STORE, ONE, ONE, most), ())

    def test_first_of_several(self):
        self.assertEqual(least_habits(STORE, ONE, OTHER, 1), ("shuffle",))
        self.assertEqual(least_habits(STORE, ONE, OTHER, 3), ("move",))
        self.assertEqual(least_habits(STORE, ONE, ("jam", "fig", None, "kiwi"), 1), ("move",))

    def test_two_words(self):
        store = Store(((5, 2), (3, 1)), ("a", "b"))
        self.assertEqual(least_habits(store, ("a", "b", None), (None, "a", "b"), 2), ("move",))
        self.assertEqual(least_habits(STORE, ONE, ("kiwi", None, "jam", "fig"), 2), ("move", "swap"))

    def test_none(self):
        self.assertIsNone(least_habits(STORE, ONE, OTHER, 0))
        self.assertIsNone(least_habits(STORE, ONE, ("kiwi", None, "jam", "fig"), 1))

    def test_errors(self):
        for wrong in WRONG_LAYOUTS:
            with self.assertRaises(InvalidLayout):
                least_habits(STORE, wrong, OTHER, 4)
            with self.assertRaises(InvalidLayout):
                least_habits(STORE, ONE, wrong, 4)
        for most in WRONG_NUMBERS:
            with self.subTest(most=most), self.assertRaises(InvalidNumber):
                least_habits(STORE, ONE, ONE, most)


class PlainTest(unittest.TestCase):
    """Point 1: what is handed in is not changed, and what is returned may be changed."""

    def test_unchanged_and_repeated(self):
        hands = {"zoe": ("swap",), "ann": ("move",), "bob": ()}
        before = copy.deepcopy(hands)
        told = who_could(STORE, hands, ONE, OTHER, 3)
        self.assertEqual((hands, list(hands)), (before, list(before)))
        told.clear()
        self.assertEqual(who_could(STORE, hands, ONE, OTHER, 3), ["ann", "zoe"])
        hands["Bad"] = ()
        with self.assertRaises(InvalidHands):
            who_could(STORE, hands, ONE, OTHER, 3)
        del hands["Bad"]
        self.assertEqual(who_could(STORE, hands, ONE, OTHER, 3), ["ann", "zoe"])
        self.assertEqual(deeds_between(STORE, ("move",), ONE, OTHER, 3), deeds_between(STORE, ("move",), ONE, OTHER, 3))
        self.assertEqual(least_habits(STORE, ONE, OTHER, 3), least_habits(STORE, ONE, OTHER, 3))


if __name__ == "__main__":
    unittest.main()
