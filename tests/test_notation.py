"""Point 27: the text of a store."""

import random
import re
import unittest

from coldcrates.errors import InvalidStore, InvalidText
from coldcrates.notation import format_store, parse_store
from coldcrates.stores import Store
from tests.some_stores import some_stores

STORE = Store(((5, 2), (3, 1)), ("fig", "plum"))
TEXT = "door 5 2\ndoor 3 1\ncrates fig plum"


def expected_kinds(ahead):
    """Return the kinds of words, or the end, that can stand behind the rows and words of a right beginning."""
    rows, words = ahead[:-1], ahead[-1]
    if rows and rows[-1][0] == "crates":
        return ["end of text"]
    if not words:
        first = [] if len(rows) == 4 else ["door"]
        return first + (["crates"] if rows else [])
    if words[0] == "door":
        return ["number"] if len(words) < 3 else ["end of row"]
    many = len(words) - 1
    return (["end of row"] if many else []) + (["crate"] if many < 5 else [])


def fits(word, kind, words):
    if kind == "number":
        return re.fullmatch("[1-9][0-9]?", word) is not None
    if kind == "crate":
        return re.fullmatch("[a-z]{1,8}", word) is not None and (len(words) == 1 or word > words[-1])
    return word == kind


def first_wrong(text):
    """Return the row and the number of the first word that no right text has there, None if there is none."""
    right = []
    for row, line in enumerate(text.split("\n")):
        words = []
        for at, word in enumerate(line.split(" ")):
            if not any(fits(word, kind, words) for kind in expected_kinds(right + [words])):
                return (row, at)
            words.append(word)
        if "end of row" not in expected_kinds(right + [words]):
            return (row, len(words))
        right.append(words)
    return None if expected_kinds(right + [[]]) == ["end of text"] else (len(right), 0)


def some_change(text, rng):
    """Return a text in which something is changed, put in or left out."""
    for _ in range(rng.choice([1, 1, 2])):
        pieces = re.findall("[^ \n]+|[ \n]", text)
        at = rng.randrange(len(pieces) + 1)
        new = rng.choice([" ", "\n", "door", "crates", "0", "7", "07", "12", "100", "+3", "fig", "a", "zz", "X", "-1", ""])
        text = "".join(pieces[:at] + [new] + pieces[at + rng.choice([0, 1, 1, 2]):])
    return text


class ThereAndBackTest(unittest.TestCase):
    def test_stores_of_all_sizes(self):
        stores = some_stores(1, 200)
        self.assertEqual({len(store) for store in stores}, {1, 2, 3, 4})
        self.assertEqual({len(store.crates) for store in stores}, {1, 2, 3, 4, 5})
        for store in stores:
            again = parse_store(format_store(store))
            self.assertIsInstance(again, Store)
            self.assertEqual((again.doors, again.crates), (store.doors, store.crates))

    def test_text(self):
        self.assertEqual(format_store(STORE), TEXT)
        self.assertEqual(format_store(Store(((99, 1),), ("a",))), "door 99 1\ncrates a")
        store = Store(((1, 1), (10, 2), (3, 1), (9, 2)), ("a", "ab", "b", "c", "longname"))
        self.assertEqual(format_store(store), "door 1 1\ndoor 10 2\ndoor 3 1\ndoor 9 2\ncrates a ab b c longname")
        self.assertEqual(parse_store(format_store(store)), store)

    def test_repeated(self):
        self.assertEqual(parse_store(TEXT), parse_store(TEXT))
        self.assertEqual(format_store(STORE), format_store(STORE))


class InvalidTextTest(unittest.TestCase):
    def assert_wrong(self, text, row, word):
        with self.subTest(text=text), self.assertRaises(InvalidText) as caught:
            parse_store(text)
        self.assertEqual((caught.exception.row, caught.exception.word), (row, word))

    def test_trial_of_many_texts(self):
        rng = random.Random(2)
        wrong = 0
        for store in some_stores(3, 3000):
            text = some_change(format_store(store), rng)
            place = first_wrong(text)
            if place is not None:
                wrong += 1
                self.assert_wrong(text, *place)
                continue
            try:
                self.assertEqual(format_store(parse_store(text)), text)
            except InvalidStore:
                pass
        self.assertGreater(wrong, 2000)

    def test_first_word(self):
        self.assert_wrong("", 0, 0)
        self.assert_wrong("Door 5 2\ncrates fig", 0, 0)
        self.assert_wrong("door 5 2\nshelf 3 1\ncrates fig", 1, 0)
        self.assert_wrong("door 5 2\ncrate fig", 1, 0)
        self.assert_wrong("doors 5 2\ncrates fig", 0, 0)
        self.assert_wrong(" door 5 2\ncrates fig", 0, 0)
        self.assert_wrong("\ndoor 5 2\ncrates fig", 0, 0)
        self.assert_wrong("door 5 2\n\ncrates fig", 1, 0)

    def test_crates_ahead_of_any_door(self):
        self.assert_wrong("crates fig", 0, 0)
        self.assert_wrong("crates fig\ndoor 5 2", 0, 0)

    def test_fifth_door(self):
        self.assert_wrong("door 5 1\n" * 4 + "door 5 1\ncrates fig", 4, 0)
        self.assert_wrong("door 5 1\n" * 4 + "door x", 4, 0)
        self.assertEqual(len(parse_store("door 5 1\n" * 4 + "crates fig")), 4)

    def test_numbers(self):
        for number in ("0", "00", "05", "100", "+5", "-5", "5.0", "x", "", "5x", "\u0665", "\u00b2", "5\t", "1_0", "099"):
            self.assert_wrong(f"door {number} 2\ncrates fig", 0, 1)
            self.assert_wrong(f"door 5 {number}\ncrates fig", 0, 2)
            self.assert_wrong(f"door 5 2\ndoor 7 {number}\ncrates X", 1, 2)

    def test_missing_words(self):
        self.assert_wrong("door\ncrates fig", 0, 1)
        self.assert_wrong("door 5\ncrates fig", 0, 2)
        self.assert_wrong("door 5 2\ncrates", 1, 1)
        self.assert_wrong("door 5 2\ncrates ", 1, 1)

    def test_superfluous_words(self):
        self.assert_wrong("door 5 2 1\ncrates fig", 0, 3)
        self.assert_wrong("door 5 2 \ncrates fig", 0, 3)
        self.assert_wrong("door 5 2\ncrates fig ", 1, 2)
        self.assert_wrong("door 5 2\ncrates a b c d e f", 1, 6)
        self.assert_wrong("door 5 2\ncrates a b c d e f g", 1, 6)

    def test_two_blanks_in_a_row(self):
        self.assert_wrong("door  5 2\ncrates fig", 0, 1)
        self.assert_wrong("door 5  2\ncrates fig", 0, 2)
        self.assert_wrong("door 5 2\ncrates  fig", 1, 1)
        self.assert_wrong("door 5 2\ncrates fig  plum", 1, 2)

    def test_crates(self):
        for name in ("Fig", "fig1", "ninechars", "-", "f\u00efg", "fig\t", "fig,"):
            self.assert_wrong(f"door 5 2\ncrates {name}", 1, 1)
            self.assert_wrong(f"door 5 2\ncrates a {name} b", 1, 2)
        self.assert_wrong("door 5 2\ncrates fig fig", 1, 2)
        self.assert_wrong("door 5 2\ncrates plum fig", 1, 2)
        self.assert_wrong("door 5 3\ncrates fig plum jam", 1, 3)
        self.assert_wrong("door 5 3\ncrates fig figs f", 1, 3)

    def test_row_behind_the_crates(self):
        self.assert_wrong(TEXT + "\n", 3, 0)
        self.assert_wrong(TEXT + "\ndoor 1 1", 3, 0)
        self.assert_wrong(TEXT + "\ncrates zz", 3, 0)
        self.assert_wrong(TEXT + "\n\n\n", 3, 0)

    def test_missing_rows(self):
        self.assert_wrong("door 5 2", 1, 0)
        self.assert_wrong("door 5 2\ndoor 3 1", 2, 0)
        self.assert_wrong("door 5 1\n" * 3 + "door 5 1", 4, 0)
        self.assert_wrong("door 5 2\n", 1, 0)

    def test_first_of_several(self):
        self.assert_wrong("door 5 x\nshelf\ncrates b a", 0, 2)
        self.assert_wrong("door x x", 0, 1)
        self.assert_wrong("door 5 2\ncrates b a 7\nmore", 1, 2)
        self.assert_wrong("door 5\ndoor 5 2 7\nmore", 0, 2)


class InvalidStoreTest(unittest.TestCase):
    def assert_wrong(self, text, part):
        with self.subTest(text=text), self.assertRaises(InvalidStore) as caught:
            parse_store(text)
        self.assertEqual(caught.exception.part, part)

    def test_doors(self):
        self.assert_wrong("door 5 5\ncrates fig", "doors")
        self.assert_wrong("door 5 99\ncrates fig", "doors")
        self.assert_wrong("door 5 4\ndoor 5 3\ncrates fig", "doors")
        self.assert_wrong("door 5 5\ncrates a b c d e", "doors")

    def test_crates(self):
        self.assert_wrong("door 5 1\ncrates fig plum", "crates")
        self.assert_wrong("door 5 2\ndoor 5 2\ncrates a b c d e", "crates")

    def test_invalid_text_first(self):
        with self.assertRaises(InvalidText):
            parse_store("door 5 5\ncrates fig\n")


if __name__ == "__main__":
    unittest.main()
