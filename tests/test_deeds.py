"""Point 4: deeds."""

import unittest

from coldcrates.deeds import after
from coldcrates.errors import InvalidDeed, InvalidLayout
from coldcrates.stores import Store, layouts
from tests.oracle import can_be

SMALL = Store(((5, 2), (3, 1)), ("jam", "kiwi"))
WIDE = Store(((5, 2), (3, 1), (9, 3)), ("fig", "jam", "kiwi"))
FULL = Store(((5, 2), (3, 1)), ("a", "b", "c"))
LAYOUT = ("kiwi", None, "fig", None, "jam", None)


def all_deeds(store):
    """Return the list of all deeds in a store."""
    found = [(word, name) for word in ("move", "near") for name in store.crates]
    found += [("swap", one, other) for one in store.crates for other in store.crates if one != other]
    return found + [("shuffle", door) for door in range(len(store))]


class AfterTest(unittest.TestCase):
    def test_move(self):
        self.assertEqual(after(WIDE, LAYOUT, ("move", "fig")), [
            ("kiwi", None, None, None, "jam", "fig"),
            ("kiwi", None, None, "fig", "jam", None),
            ("kiwi", "fig", None, None, "jam", None),
        ])

    def test_near_also_behind_another_door(self):
        self.assertEqual(after(WIDE, LAYOUT, ("near", "fig")), [
            ("kiwi", None, None, "fig", "jam", None),
            ("kiwi", "fig", None, None, "jam", None),
        ])

    def test_near_at_the_ends(self):
        self.assertEqual(after(WIDE, LAYOUT, ("near", "kiwi")), [(None, "kiwi", "fig", None, "jam", None)])
        # The place ahead of the first one is none, though the last one is free.
        self.assertEqual(after(SMALL, ("jam", "kiwi", None), ("near", "jam")), [])
        self.assertEqual(after(SMALL, (None, "kiwi", "jam"), ("near", "jam")), [])

    def test_swap(self):
        expected = [("kiwi", None, "jam", None, "fig", None)]
        self.assertEqual(after(WIDE, LAYOUT, ("swap", "fig", "jam")), expected)
        self.assertEqual(after(WIDE, LAYOUT, ("swap", "jam", "fig")), expected)

    def test_shuffle_with_free_places(self):
        self.assertEqual(after(WIDE, LAYOUT, ("shuffle", 2)), [
            ("kiwi", None, "fig", None, None, "jam"),
            ("kiwi", None, "fig", None, "jam", None),
            ("kiwi", None, "fig", "jam", None, None),
        ])
        self.assertEqual(after(WIDE, ("jam", None, None, "kiwi", None, "fig"), ("shuffle", 2)), [
            ("jam", None, None, None, "fig", "kiwi"),
            ("jam", None, None, None, "kiwi", "fig"),
            ("jam", None, None, "fig", None, "kiwi"),
            ("jam", None, None, "fig", "kiwi", None),
            ("jam", None, None, "kiwi", None, "fig"),
            ("jam", None, None, "kiwi", "fig", None),
        ])

    def test_shuffle_of_one_place_and_of_free_ones(self):
        self.assertEqual(after(WIDE, LAYOUT, ("shuffle", 1)), [LAYOUT])
        empty = ("kiwi", "jam", "fig", None, None, None)
        self.assertEqual(after(WIDE, empty, ("shuffle", 2)), [empty])

    def test_no_free_place(self):
        for deed in (("move", "a"), ("near", "b")):
            self.assertEqual(after(FULL, ("b", "a", "c"), deed), [])
        self.assertEqual(after(FULL, ("b", "a", "c"), ("swap", "a", "b")), [("a", "b", "c")])
        self.assertEqual(after(FULL, ("b", "a", "c"), ("shuffle", 0)), [("a", "b", "c"), ("b", "a", "c")])

    def test_no_free_place_beside(self):
        store = Store(((5, 4),), ("a", "b", "c"))
        self.assertEqual(after(store, ("a", "b", "c", None), ("near", "b")), [])
        self.assertEqual(len(after(store, ("a", "b", "c", None), ("move", "b"))), 1)

    def test_all_deeds_in_several_stores(self):
        for store in (SMALL, FULL, WIDE, Store(((1, 1), (2, 3)), ("a", "b")), Store(((9, 1),), ("a",))):
            every = list(layouts(store))
            for layout in every[::7] + every[:3]:
                for deed in all_deeds(store):
                    expected = [other for other in every if can_be(store, deed, layout, other)]
                    self.assertEqual(after(store, layout, deed), expected, (layout, deed))

    def test_results_are_new_and_equal(self):
        for deed in all_deeds(WIDE):
            found = after(WIDE, LAYOUT, deed)
            kept = list(found)
            found.append(None)
            self.assertEqual(after(WIDE, LAYOUT, deed), kept)


class WrongDeedTest(unittest.TestCase):
    def test_invalid_deed(self):
        wrong = [
            ("throw", "jam"), ("Move", "jam"), ("", "jam"), (None, "jam"), ("open", 0, ("jam", None)),
            ("move", "plum"), ("near", "plum"), ("move", None), ("near", None), ("move", 0),
            ("swap", "jam", "jam"), ("swap", "plum", "jam"), ("swap", "jam", "plum"), ("swap", "plum", "plum"),
            ("shuffle", 2), ("shuffle", -1), ("shuffle", True), ("shuffle", "0"), ("shuffle", None),
            ("shuffle", "jam"), ("move", "jam", "kiwi"), ("move",), ("near",), ("near", "jam", "kiwi"),
            ("swap", "jam"), ("swap", "jam", "kiwi", "jam"), ("shuffle",), ("shuffle", 0, 1),
            (), None, "move", ["move", "jam"],
        ]
        for deed in wrong:
            with self.subTest(deed=deed), self.assertRaises(InvalidDeed):
                after(SMALL, ("jam", None, "kiwi"), deed)

    def test_invalid_layout_comes_first(self):
        for layout in (("jam", None, None), ("jam", "kiwi"), ["jam", None, "kiwi"], ("jam", "jam", "kiwi"), None):
            for deed in (("move", "jam"), ("move", "plum")):
                with self.subTest(layout=layout, deed=deed), self.assertRaises(InvalidLayout):
                    after(SMALL, layout, deed)


if __name__ == "__main__":
    unittest.main()
