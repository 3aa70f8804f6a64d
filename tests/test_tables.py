"""Point 26: tables."""

import random
import unittest

from coldcrates.errors import InvalidLayout, InvalidLog, NoLayout
from coldcrates.stores import Store, layouts
from coldcrates.tables import shelf, table
from tests.oracle import all_stories

STORE = Store(((5, 2), (3, 1)), ("fig", "plum"))
FOUR = Store(((1, 1), (2, 2), (3, 1), (4, 2)), ("a", "bb", "plum"))
ONE = Store(((7, 3),), ("fig", "jam"))
FULL = Store(((5, 1), (3, 1)), ("a", "b"))


def tried_table(store, log):
    ends = [told[-1] for told in all_stories(store, log)]
    rows = []
    for name in store.crates:
        row = name + " "
        for place in range(store.size):
            if place > 0 and store.door_of(place) != store.door_of(place - 1):
                row += "|"
            many = len([end for end in ends if end[place] == name])
            row += "#" if many == len(ends) else "+" if many else "."
        rows.append(row)
    return "\n".join(rows)


class TableTest(unittest.TestCase):
    def test_trial_of_all_stories(self):
        rng = random.Random(1)
        for store in (STORE, ONE, FULL, FOUR):
            for _ in range(15):
                layout = rng.choice(list(layouts(store)))
                log = []
                for door in range(len(store)):
                    seen = tuple(rng.choice([layout[place], layout[place] and "?"]) for place in store.places_of(door))
                    log += rng.choice([[], [("open", door, seen)]])
                log += rng.choice([[], [("swap",) + store.crates[:2]], [("shuffle", 0)]])
                self.assertEqual(table(store, log), tried_table(store, log), log)

    def test_each_sign(self):
        self.assertEqual(table(STORE, [("open", 0, ("fig", None))]), "fig #.|.\nplum ..|#")
        self.assertEqual(table(STORE, []), "fig ++|+\nplum ++|+")
        self.assertEqual(table(STORE, [("open", 0, ("fig", "?"))]), "fig #.|.\nplum .#|.")
        self.assertEqual(table(STORE, [("open", 0, (None, "?"))]), "fig .+|+\nplum .+|+")

    def test_one_door(self):
        self.assertEqual(table(ONE, []), "fig +++\njam +++")
        self.assertEqual(table(ONE, [("open", 0, (None, "fig", "jam"))]), "fig .#.\njam ..#")
        self.assertEqual(table(Store(((1, 1),), ("a",)), []), "a #")

    def test_four_doors(self):
        log = [("open", 1, ("bb", None)), ("open", 2, (None,)), ("open", 3, (None, "?"))]
        self.assertEqual(table(FOUR, log), "a +|..|.|.+\nbb .|#.|.|..\nplum +|..|.|.+")
        self.assertEqual(table(FOUR, []), "a +|++|+|++\nbb +|++|+|++\nplum +|++|+|++")

    def test_behind_a_deed(self):
        self.assertEqual(table(STORE, [("open", 0, ("?", None)), ("move", "plum")]), "fig +.|+\nplum .#|.")

    def test_errors(self):
        impossible = [("open", 0, (None, None))]
        with self.assertRaises(NoLayout):
            table(STORE, impossible)
        with self.assertRaises(InvalidLog) as caught:
            table(STORE, impossible + [("move", "jam"), ("move",)])
        self.assertEqual(caught.exception.index, 1)

    def test_plain(self):
        log = [("open", 0, ("?", None)), ("move", "plum")]
        self.assertEqual(table(STORE, log), table(STORE, log))
        self.assertEqual(log, [("open", 0, ("?", None)), ("move", "plum")])


class ShelfTest(unittest.TestCase):
    def test_all_layouts(self):
        for store in (STORE, ONE, FULL, FOUR):
            for layout in layouts(store):
                rows = [row.split(" ") for row in shelf(store, layout).split("\n")]
                self.assertEqual([row[0] for row in rows], [f"{door}:" for door in range(len(store))])
                lying = [None if name == "-" else name for row in rows for name in row[1:]]
                self.assertEqual(tuple(lying), layout)
                self.assertEqual([len(row) - 1 for row in rows], [places for _, places in store.doors])

    def test_free_places(self):
        self.assertEqual(shelf(STORE, (None, "plum", "fig")), "0: - plum\n1: fig")
        self.assertEqual(shelf(STORE, ("fig", "plum", None)), "0: fig plum\n1: -")
        self.assertEqual(shelf(FOUR, ("bb", None, None, "a", "plum", None)), "0: bb\n1: - -\n2: a\n3: plum -")
        self.assertEqual(shelf(ONE, ("jam", None, "fig")), "0: jam - fig")

    def test_wrong_layouts(self):
        for layout in (("fig", "plum"), ("fig", "fig", None), (None,) * 3, ["fig", "plum", None], None,
                       ("fig", "jam", None)):
            with self.subTest(layout=layout), self.assertRaises(InvalidLayout):
                shelf(STORE, layout)

    def test_repeated(self):
        self.assertEqual(shelf(STORE, ("fig", None, "plum")), shelf(STORE, ("fig", None, "plum")))


if __name__ == "__main__":
    unittest.main()
