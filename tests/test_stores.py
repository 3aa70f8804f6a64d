"""Points 1, 2 and 3: words, stores and layouts."""

import copy
import itertools
import unittest

from coldcrates.errors import InvalidLayout, InvalidStore, UnknownCrate, UnknownDoor, UnknownPlace
from coldcrates.stores import Store, behind, is_layout, layout_count, layouts, place_of

SMALL = Store(((5, 2), (3, 1)), ("jam", "kiwi"))
WRONG_NUMBERS = [True, False, "1", None, (1,)]


class StoreLimitsTest(unittest.TestCase):
    def part(self, doors, crates):
        with self.assertRaises(InvalidStore) as caught:
            Store(doors, crates)
        return caught.exception.part

    def accepted(self, doors, crates):
        store = Store(doors, crates)
        self.assertEqual((store.doors, store.crates), (doors, crates))

    def test_number_of_doors(self):
        for many in range(1, 5):
            self.accepted(((1, 1),) * many, ("a",))
        self.assertEqual(self.part((), ("a",)), "doors")
        self.assertEqual(self.part(((1, 1),) * 5, ("a",)), "doors")

    def test_warmth(self):
        for warmth in (1, 2, 98, 99):
            self.accepted(((7, 1), (warmth, 1)), ("a",))
        for warmth in [-1, 0, 100] + WRONG_NUMBERS:
            with self.subTest(warmth=warmth):
                self.assertEqual(self.part(((7, 1), (warmth, 1)), ("a",)), "doors")
                self.assertEqual(self.part(((warmth, 1), (7, 1)), ("a",)), "doors")

    def test_places_behind_a_door(self):
        for many in range(1, 5):
            self.accepted(((7, 1), (7, many)), ("a",))
        for many in [-1, 0, 5] + WRONG_NUMBERS:
            with self.subTest(many=many):
                self.assertEqual(self.part(((7, 1), (7, many)), ("a",)), "doors")
                self.assertEqual(self.part(((7, many), (7, 1)), ("a",)), "doors")

    def test_places_in_all(self):
        self.accepted(((1, 4), (1, 2)), ("a",))
        self.accepted(((1, 1), (1, 2), (1, 2), (1, 1)), ("a",))
        self.assertEqual(self.part(((1, 4), (1, 3)), ("a",)), "doors")
        self.assertEqual(self.part(((1, 2), (1, 2), (1, 2), (1, 1)), ("a",)), "doors")

    def test_form_of_doors(self):
        for doors in ([(1, 1)], ((1,),), ((1, 1, 1),), ([1, 1],), (1, 1), 3, None, "ab", ((1, 1), None)):
            with self.subTest(doors=doors):
                self.assertEqual(self.part(doors, ("a",)), "doors")

    def test_number_of_crates(self):
        for many in range(1, 6):
            self.accepted(((1, 4), (1, 2)), tuple("abcde"[:many]))
        self.assertEqual(self.part(((1, 4), (1, 2)), ()), "crates")
        self.assertEqual(self.part(((1, 4), (1, 2)), tuple("abcdef")), "crates")

    def test_no_more_crates_than_places(self):
        self.accepted(((1, 2), (1, 1)), ("a", "b", "c"))
        self.assertEqual(self.part(((1, 2), (1, 1)), ("a", "b", "c", "d")), "crates")
        self.accepted(((1, 1),), ("a",))
        self.assertEqual(self.part(((1, 1),), ("a", "b")), "crates")

    def test_words(self):
        for word in ("a", "z", "ab", "abcdefgh", "zzzzzzzz"):
            self.accepted(((1, 3),), (word,))
        wrong = ["", "abcdefghi", "Jam", "jaM", "j1", "a b", " ", "a_b", "?", "-", "\u00e4", "\u0131", "a\n", "\u0101"]
        for word in wrong + [None, 1, True, ("a",), b"a", ["a"]]:
            with self.subTest(word=word):
                self.assertEqual(self.part(((1, 3),), (word,)), "crates")
                self.assertEqual(self.part(((1, 3),), ("a", word)), "crates")

    def test_ascending_and_different(self):
        self.accepted(((1, 3),), ("a", "aa", "ab"))
        for crates in (("b", "a"), ("a", "a"), ("aa", "a"), ("a", "c", "b"), ("a", "b", "b"), ("b", "c", "a")):
            with self.subTest(crates=crates):
                self.assertEqual(self.part(((1, 3),), crates), "crates")

    def test_form_of_crates(self):
        for crates in (["a"], "a", "ab", None, 1, {"a": 1}):
            with self.subTest(crates=crates):
                self.assertEqual(self.part(((1, 3),), crates), "crates")

    def test_doors_are_named_first(self):
        self.assertEqual(self.part(((0, 1),), ()), "doors")
        self.assertEqual(self.part(((1, 4), (1, 3)), ("b", "a")), "doors")
        self.assertEqual(self.part((), None), "doors")


class StoreTest(unittest.TestCase):
    def test_properties(self):
        store = Store(((5, 2), (3, 1), (9, 3)), ("fig", "jam", "kiwi"))
        self.assertEqual(store.doors, ((5, 2), (3, 1), (9, 3)))
        self.assertEqual(store.crates, ("fig", "jam", "kiwi"))
        self.assertEqual(store.size, 6)
        self.assertEqual(len(store), 3)
        self.assertEqual((Store(((9, 1),), ("a",)).size, len(Store(((9, 1),), ("a",)))), (1, 1))

    def test_methods_stand_in_the_class(self):
        for name in ("doors", "crates", "size", "__len__", "__eq__", "door_of", "places_of"):
            self.assertIn(name, vars(Store))

    def test_door_of(self):
        store = Store(((5, 2), (3, 1), (9, 3)), ("fig",))
        self.assertEqual([store.door_of(place) for place in range(6)], [0, 0, 1, 2, 2, 2])

    def test_places_of(self):
        store = Store(((5, 2), (3, 1), (9, 3)), ("fig",))
        self.assertEqual([store.places_of(door) for door in range(3)], [(0, 1), (2,), (3, 4, 5)])

    def test_unknown_place(self):
        for place in [-1, -3, 3, 4, 100] + WRONG_NUMBERS:
            with self.subTest(place=place), self.assertRaises(UnknownPlace):
                SMALL.door_of(place)

    def test_unknown_door(self):
        for door in [-1, -2, 2, 3, 100] + WRONG_NUMBERS:
            with self.subTest(door=door), self.assertRaises(UnknownDoor):
                SMALL.places_of(door)

    def test_equality(self):
        self.assertTrue(SMALL == Store(((5, 2), (3, 1)), ("jam", "kiwi")))
        self.assertFalse(SMALL != Store(((5, 2), (3, 1)), ("jam", "kiwi")))
        others = [
            Store(((5, 2), (3, 1)), ("jam", "plum")),
            Store(((5, 2), (3, 1)), ("jam",)),
            Store(((5, 2), (4, 1)), ("jam", "kiwi")),
            Store(((5, 1), (3, 2)), ("jam", "kiwi")),
            Store(((3, 1), (5, 2)), ("jam", "kiwi")),
            Store(((5, 2), (3, 1), (3, 1)), ("jam", "kiwi")),
            (((5, 2), (3, 1)), ("jam", "kiwi")),
            None,
        ]
        for other in others:
            self.assertFalse(SMALL == other)
            self.assertTrue(SMALL != other)


def word_order(layout):
    return tuple((name is not None, name or "") for name in layout)


class LayoutsTest(unittest.TestCase):
    def test_order_with_a_free_place(self):
        self.assertEqual(list(layouts(SMALL)), [
            (None, "jam", "kiwi"), (None, "kiwi", "jam"), ("jam", None, "kiwi"),
            ("jam", "kiwi", None), ("kiwi", None, "jam"), ("kiwi", "jam", None),
        ])

    def test_order_without_free_places(self):
        self.assertEqual(list(layouts(Store(((1, 1), (1, 2)), ("a", "b", "c")))), [
            ("a", "b", "c"), ("a", "c", "b"), ("b", "a", "c"), ("b", "c", "a"), ("c", "a", "b"), ("c", "b", "a"),
        ])

    def test_order_with_many_free_places(self):
        self.assertEqual(list(layouts(Store(((1, 3),), ("a",)))), [
            (None, None, "a"), (None, "a", None), ("a", None, None),
        ])

    def test_layouts_of_all_sizes(self):
        for size in range(1, 7):
            doors = ((1, min(size, 4)),) + (((1, size - 4),) if size > 4 else ())
            for many in range(1, min(size, 5) + 1):
                store = Store(doors, tuple("abcde"[:many]))
                lying = store.crates + (None,) * (size - many)
                expected = sorted(set(itertools.permutations(lying)), key=word_order)
                self.assertEqual(list(layouts(store)), expected)
                self.assertEqual(layout_count(store), len(expected))
                self.assertTrue(all(is_layout(store, layout) for layout in expected))

    def test_layouts_is_a_generator(self):
        found = layouts(SMALL)
        self.assertIs(iter(found), found)
        self.assertEqual(next(found), (None, "jam", "kiwi"))
        self.assertEqual(len(list(found)), 5)
        self.assertEqual(list(layouts(SMALL)), list(layouts(SMALL)))

    def test_layout_count(self):
        self.assertEqual(layout_count(SMALL), 6)
        self.assertEqual(layout_count(Store(((1, 1),), ("a",))), 1)
        self.assertEqual(layout_count(Store(((1, 4), (1, 2)), ("a", "b", "c", "d", "e"))), 720)
        self.assertEqual(layout_count(Store(((1, 4), (1, 2)), ("a", "b"))), 30)


WRONG_LAYOUTS = [
    ("jam", None, None),
    (None, None, None),
    ("jam", "kiwi"),
    ("jam", "kiwi", None, None),
    ("jam", "jam", "kiwi"),
    ("jam", "jam", None),
    ("jam", "plum", None),
    ("jam", "kiwi", "plum"),
    ("jam", "kiwi", "?"),
    ("jam", "kiwi", ""),
    ("jam", "kiwi", 0),
    ("jam", "kiwi", False),
    ("jam", "kiwi", ("jam",)),
    ("jam", ["kiwi"], None),
    ["jam", "kiwi", None],
    "jam",
    "jkn",
    (),
    None,
    3,
]


class LayoutTest(unittest.TestCase):
    def test_is_layout(self):
        for layout in layouts(SMALL):
            self.assertIs(is_layout(SMALL, layout), True)
        for value in WRONG_LAYOUTS:
            with self.subTest(value=value):
                self.assertIs(is_layout(SMALL, value), False)

    def test_place_of(self):
        layout = ("kiwi", None, "jam")
        self.assertEqual([place_of(SMALL, layout, name) for name in ("jam", "kiwi")], [2, 0])

    def test_behind(self):
        store = Store(((5, 2), (3, 1), (9, 3)), ("fig", "jam", "kiwi"))
        layout = ("kiwi", "fig", None, None, "jam", None)
        self.assertEqual([behind(store, layout, door) for door in range(3)],
                         [("kiwi", "fig"), (None,), (None, "jam", None)])

    def test_invalid_layout_comes_first(self):
        for value in WRONG_LAYOUTS:
            with self.subTest(value=value):
                for name in ("jam", "plum"):
                    with self.assertRaises(InvalidLayout):
                        place_of(SMALL, value, name)
                for door in (0, 2):
                    with self.assertRaises(InvalidLayout):
                        behind(SMALL, value, door)

    def test_unknown_crate(self):
        for name in ("plum", "", "?", "JAM", None):
            with self.subTest(name=name), self.assertRaises(UnknownCrate):
                place_of(SMALL, ("jam", "kiwi", None), name)

    def test_unknown_door(self):
        for door in [-1, 2, 3] + WRONG_NUMBERS:
            with self.subTest(door=door), self.assertRaises(UnknownDoor):
                behind(SMALL, ("jam", "kiwi", None), door)

    def test_nothing_is_changed(self):
        value = ["jam", "kiwi", None]
        kept = copy.deepcopy(value)
        is_layout(SMALL, value)
        self.assertEqual(value, kept)
        found = list(layouts(SMALL))
        found.clear()
        self.assertEqual(len(list(layouts(SMALL))), 6)


if __name__ == "__main__":
    unittest.main()
