"""Points 19 and 20: people who speak."""

import copy
import itertools
import random
import unittest

from coldcrates.errors import InvalidLayout, InvalidNumber, InvalidRows, UnknownCrate
from coldcrates.speaking import first_to_know, needed_doors, spoken
from coldcrates.stores import Store, layouts

STORE = Store(((5, 2), (3, 1)), ("fig",))
TWO = Store(((5, 2), (3, 1)), ("fig", "plum"))
LAYOUT = ("fig", "plum", None)
LINE = Store(((1, 1), (1, 1), (1, 1)), ("a",))
FOUR = Store(((2, 1), (3, 1), (9, 1), (1, 2)), ("a", "b"))
CORNERS = Store(((1, 2), (1, 1), (1, 1)), ("a", "b"))
SMALL_STORES = [STORE, TWO, LINE, CORNERS, FOUR, Store(((1, 1),), ("a",)), Store(((1, 3),), ("a", "b"))]
WRONG_DOORS = [2, -1, True, False, None, "0", 10 ** 18]
WRONG_LAYOUTS = [("fig", "plum"), ("fig", "fig", None), (None, None, None), list(LAYOUT), None]


def seen_by(store, layout, row):
    return {place: layout[place] for door in row for place in store.places_of(door)}


def knows(store, said, layout, name, row):
    """Tell whether one knows the place: what others said, and what it saw, is the same in no layout with another."""
    alike = [other for other in said if said[other] == said[layout] and
             seen_by(store, other, row) == seen_by(store, layout, row)]
    return all(other.index(name) == layout.index(name) for other in alike)


def all_said(store, name, rows, turns):
    """Return a dict from each layout to the tuple of what is said in it in so many turns."""
    said = {layout: () for layout in layouts(store)}
    for turn in range(turns):
        row = rows[turn % len(rows)]
        said = {layout: words + (knows(store, said, layout, name, row),) for layout, words in said.items()}
    return said


def tried_spoken(store, layout, name, rows):
    counts = [len(list(layouts(store)))]
    while len(counts) == 1 or counts[-1] != counts[-2]:
        said = all_said(store, name, rows, len(counts) * len(rows))
        counts.append(list(said.values()).count(said[layout]))
    return (said[layout], counts[-1])


def tried_needed(store, layout, name, rows, person):
    for many in range(len(store) + 1):
        for doors in itertools.combinations(range(len(store)), many):
            wider = rows[:person] + (rows[person] + doors,) + rows[person + 1:]
            if all_said(store, name, wider, person + 1)[layout][person]:
                return doors
    return None


def some_rows(store, rng):
    """Return rows of one to three people, also with a door twice and without doors."""
    return tuple(tuple(rng.choices(range(len(store)), k=rng.choice([0, 1, 1, 2, 3])))
                 for _ in range(rng.choice([1, 2, 2, 3, 3])))


class SpokenTest(unittest.TestCase):
    def test_trial_of_all_layouts(self):
        rng = random.Random(1)
        for store in SMALL_STORES:
            found = list(layouts(store))
            for _ in range(25):
                rows = some_rows(store, rng)
                layout, name = rng.choice(found), rng.choice(store.crates)
                told = spoken(store, layout, name, rows)
                self.assertEqual(told, tried_spoken(store, layout, name, rows), (layout, name, rows))
                turns = [turn for turn, word in enumerate(told[0]) if word]
                first = (turns[0], turns[0] % len(rows)) if turns else None
                self.assertEqual(first_to_know(store, layout, name, rows), first, (layout, name, rows))

    def test_one_person(self):
        self.assertEqual(spoken(STORE, ("fig", None, None), "fig", ((0,),)), ((True,), 3))
        self.assertEqual(spoken(STORE, ("fig", None, None), "fig", ((1,),)), ((False, False), 2))
        self.assertEqual(spoken(STORE, ("fig", None, None), "fig", ((),)), ((False,), 3))
        self.assertEqual(spoken(STORE, (None, None, "fig"), "fig", ((1,),)), ((True, True), 1))

    def test_nothing_is_left_out_at_first(self):
        # Who knows in each layout tells nothing: just one round.
        self.assertEqual(spoken(STORE, ("fig", None, None), "fig", ((0, 1),)), ((True,), 3))
        self.assertEqual(spoken(Store(((1, 1),), ("a",)), ("a",), "a", ((), ())), ((True, True), 1))
        self.assertEqual(spoken(STORE, ("fig", None, None), "fig", ((), (), ())), ((False,) * 3, 3))

    def test_silence_tells_another_one(self):
        rows = ((0,), (1,))
        self.assertEqual(spoken(LINE, (None, None, "a"), "a", rows), ((False, True, False, True), 2))
        self.assertEqual(spoken(LINE, (None, "a", None), "a", rows), ((False, True, False, True), 2))
        self.assertEqual(spoken(LINE, ("a", None, None), "a", rows), ((True, True, True, True), 1))
        self.assertEqual(spoken(LINE, (None, None, "a"), "a", ((0,), (1,), ())), ((False, True, False) * 2, 2))
        self.assertEqual(spoken(LINE, ("a", None, None), "a", ((), (0,))), ((False, True, True, True), 1))

    def test_rounds(self):
        # Each round with something left out is followed by one without.
        rounds = set()
        for store in (CORNERS, FOUR):
            for layout in layouts(store):
                for rows in itertools.product([(), (0,), (1,), (2,), (0, 1)], repeat=2):
                    words, left = spoken(store, layout, "a", rows)
                    self.assertEqual((words, left), tried_spoken(store, layout, "a", rows), (layout, rows))
                    rounds.add(len(words) // len(rows))
        self.assertEqual(rounds, {1, 2})

    def test_door_twice_tells_no_more(self):
        for rows, single in ((((1, 1), (0, 0, 1)), ((1,), (0, 1))), (((1, 0, 1),), ((0, 1),))):
            for layout in layouts(TWO):
                self.assertEqual(spoken(TWO, layout, "fig", rows), spoken(TWO, layout, "fig", single))

    def test_kinds(self):
        words, left = spoken(TWO, LAYOUT, "fig", ((1,), ()))
        self.assertIsInstance(words, tuple)
        self.assertTrue(all(word is True or word is False for word in words))
        self.assertIs(type(left), int)


class FirstToKnowTest(unittest.TestCase):
    def test_at_once(self):
        self.assertEqual(first_to_know(STORE, ("fig", None, None), "fig", ((0,), (1,))), (0, 0))
        self.assertEqual(first_to_know(STORE, ("fig", None, None), "fig", ((), (0,))), (1, 1))
        self.assertEqual(first_to_know(STORE, ("fig", None, None), "fig", ((), (), (0,))), (2, 2))

    def test_never(self):
        self.assertIsNone(first_to_know(STORE, ("fig", None, None), "fig", ((1,), ())))
        self.assertIsNone(first_to_know(STORE, ("fig", None, None), "fig", ((),)))

    def test_door_opened_by_two(self):
        self.assertEqual(first_to_know(TWO, LAYOUT, "fig", ((1,), (0,), (0,))), (1, 1))
        self.assertEqual(first_to_know(TWO, LAYOUT, "plum", ((0,), (0,), (0,))), (0, 0))


class NeededDoorsTest(unittest.TestCase):
    def test_trial_of_all_doors(self):
        rng = random.Random(2)
        lengths = set()
        for store in SMALL_STORES:
            found = list(layouts(store))
            for _ in range(25):
                rows = some_rows(store, rng)
                layout, name = rng.choice(found), rng.choice(store.crates)
                for person in range(len(rows)):
                    told = needed_doors(store, layout, name, rows, person)
                    expected = tried_needed(store, layout, name, rows, person)
                    self.assertEqual(told, expected, (layout, name, rows, person))
                    lengths.add(len(told))
        # The door of the crate is always enough.
        self.assertEqual(lengths, {0, 1})

    def test_none_needed(self):
        self.assertEqual(needed_doors(STORE, ("fig", None, None), "fig", ((0,), (1,)), 0), ())
        self.assertEqual(needed_doors(LINE, (None, None, "a"), "a", ((0,), (1,)), 1), ())
        self.assertEqual(needed_doors(Store(((1, 1),), ("a",)), ("a",), "a", ((),), 0), ())

    def test_one_door(self):
        self.assertEqual(needed_doors(STORE, ("fig", None, None), "fig", ((1,), ()), 0), (0,))
        self.assertEqual(needed_doors(STORE, ("fig", None, None), "fig", ((1,), ()), 1), (0,))
        self.assertEqual(needed_doors(LINE, (None, None, "a"), "a", ((),), 0), (2,))

    def test_first_of_several(self):
        self.assertEqual(needed_doors(LINE, (None, None, "a"), "a", ((0,),), 0), (1,))
        self.assertEqual(needed_doors(LINE, (None, "a", None), "a", ((0,),), 0), (1,))
        self.assertEqual(needed_doors(LINE, ("a", None, None), "a", ((1,),), 0), (0,))
        self.assertEqual(needed_doors(Store(((1, 2), (1, 2)), ("a",)), (None, None, None, "a"), "a", ((),), 0), (1,))

    def test_others_have_spoken_before(self):
        # What is said ahead of it spares a person a door that it would need if it spoke first.
        self.assertEqual(needed_doors(LINE, (None, "a", None), "a", ((2,), (0,)), 1), ())
        self.assertEqual(needed_doors(LINE, (None, "a", None), "a", ((0,), (2,)), 0), (1,))

    def test_wrong_persons(self):
        for rows in (((1,),), ((1,), ()), ((), (), ())):
            for person in (-1, len(rows), True, False, None, "0", 10 ** 18, 3):
                with self.subTest(rows=rows, person=person), self.assertRaises(InvalidNumber):
                    needed_doors(TWO, LAYOUT, "fig", rows, person)


class ErrorsTest(unittest.TestCase):
    FUNCTIONS = [spoken, first_to_know, lambda *told: needed_doors(*told, 0)]

    def assert_wrong_rows(self, rows, index):
        for function in self.FUNCTIONS:
            with self.subTest(rows=rows), self.assertRaises(InvalidRows) as caught:
                function(TWO, LAYOUT, "fig", rows)
            self.assertEqual(caught.exception.index, index)

    def test_wrong_doors(self):
        for door in WRONG_DOORS:
            for at in range(3):
                rows = ((0,), (1, 0), ())[:at] + ((0, door), (door,))
                self.assert_wrong_rows(rows, at)

    def test_no_rows_and_too_many(self):
        self.assert_wrong_rows((), 0)
        self.assert_wrong_rows(((0,),) * 4, 3)
        self.assert_wrong_rows(((),) * 5, 3)
        self.assert_wrong_rows(((0,), (1,), (), (2,)), 3)
        self.assert_wrong_rows(((0,), (1,), (2,), (0,)), 2)

    def test_layouts_and_crates(self):
        for function in self.FUNCTIONS:
            for layout in WRONG_LAYOUTS:
                with self.subTest(layout=layout), self.assertRaises(InvalidLayout):
                    function(TWO, layout, "jam", ())
            for name in ("jam", "", None, True, 0):
                with self.subTest(name=name), self.assertRaises(UnknownCrate):
                    function(TWO, LAYOUT, name, ())

    def test_person_last(self):
        with self.assertRaises(InvalidRows):
            needed_doors(TWO, LAYOUT, "fig", ((2,),), -1)
        with self.assertRaises(InvalidRows):
            needed_doors(TWO, LAYOUT, "fig", (), 0)


class PlainTest(unittest.TestCase):
    """Point 1: what is handed in is not changed, and a second call returns the same."""

    def test_unchanged_and_repeated(self):
        told = (FOUR, ("a", None, "b", None, None), "b", ((0, 0), (), (1,)))
        before = copy.deepcopy(told[1:])
        for function in ErrorsTest.FUNCTIONS:
            self.assertEqual(function(*told), function(*told))
        self.assertEqual(told[1:], before)


if __name__ == "__main__":
    unittest.main()
