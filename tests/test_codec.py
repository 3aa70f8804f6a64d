"""Point 28: the code of a store."""

import unittest

from coldcrates.codec import decode_store, encode_store
from coldcrates.errors import DecodeError, InvalidStore
from coldcrates.stores import Store
from tests.some_stores import some_stores

STORE = Store(((99, 2), (3, 1), (1, 1)), ("a", "fig", "longname"))
NOT_INTEGERS = [True, False, "1", "a", None, 1.0, "", [1]]


def with_checksum(values):
    checksum = 4
    for value in values:
        checksum = (11 * checksum + value) % 251
    return values + [checksum]


def ranges_of(store):
    """Return the range of each item of the code of a store but the checksum."""
    found = [(71, 71), (1, 4)] + [(1, 99), (1, 4)] * len(store) + [(1, 5)]
    for name in store.crates:
        found += [(1, 8)] + [(1, 26)] * len(name)
    return found


class ThereAndBackTest(unittest.TestCase):
    def test_stores_of_all_sizes(self):
        for store in some_stores(4, 300):
            values = encode_store(store)
            again = decode_store(values)
            self.assertIsInstance(again, Store)
            self.assertEqual((again.doors, again.crates), (store.doors, store.crates))
            self.assertEqual(values, with_checksum(values[:-1]))
            self.assertTrue(all(type(value) is int and 0 <= value <= 255 for value in values))

    def test_items(self):
        expected = [71, 3, 99, 2, 3, 1, 1, 1, 3, 1, 1, 3, 6, 9, 7, 8, 12, 15, 14, 7, 14, 1, 13, 5]
        self.assertEqual(encode_store(STORE), with_checksum(expected))
        self.assertEqual(encode_store(Store(((9, 2),), ("fig",))), [71, 1, 9, 2, 1, 3, 6, 9, 7, 96])
        self.assertEqual(encode_store(Store(((1, 1),), ("az",)))[:-1], [71, 1, 1, 1, 1, 2, 1, 26])

    def test_plain(self):
        values = encode_store(STORE)
        before = list(values)
        self.assertEqual(decode_store(values), decode_store(values))
        self.assertEqual(values, before)
        values.clear()
        self.assertEqual(encode_store(STORE), before)


class DecodeErrorTest(unittest.TestCase):
    def assert_wrong(self, values, offset):
        with self.subTest(values=values), self.assertRaises(DecodeError) as caught:
            decode_store(values)
        self.assertEqual(caught.exception.offset, offset)

    def test_each_item(self):
        for store in some_stores(5, 8) + [STORE]:
            values = encode_store(store)
            for at, (low, high) in enumerate(ranges_of(store)):
                for wrong in [low - 1, high + 1, -1, 255, 256, 10 ** 18] + NOT_INTEGERS:
                    self.assert_wrong(values[:at] + [wrong] + values[at + 1:], at)
                    self.assert_wrong(values[:at] + [wrong], at)
                    self.assert_wrong(values[:at] + [wrong] * 3 + values[at:] * 2, at)

    def test_cut_off(self):
        for store in some_stores(6, 8) + [STORE]:
            values = encode_store(store)
            for many in range(len(values)):
                self.assert_wrong(values[:many], many)

    def test_empty_list(self):
        self.assert_wrong([], 0)

    def test_wrong_checksum(self):
        values = encode_store(STORE)
        for wrong in [values[-1] - 1, values[-1] + 1, values[-1] + 251, -1, 256] + NOT_INTEGERS:
            self.assert_wrong(values[:-1] + [wrong], len(values) - 1)
            self.assert_wrong(values[:-1] + [wrong, 7], len(values) - 1)

    def test_checksum_that_is_true(self):
        # The checksums of these codes are 0 and 1, which Python takes for False and True.
        found = {}
        for warmth in range(1, 100):
            for letter in "abcdefghijklmnopqrstuvwxyz":
                values = encode_store(Store(((warmth, 1),), (letter,)))
                found[values[-1]] = values
        for checksum, wrong in ((0, False), (1, True)):
            self.assertEqual(len(decode_store(found[checksum])), 1)
            self.assert_wrong(found[checksum][:-1] + [wrong], len(found[checksum]) - 1)

    def test_items_behind_the_checksum(self):
        values = encode_store(STORE)
        for more in ([0], [values[-1]], [True], ["x", 1], values):
            self.assert_wrong(values + more, len(values))

    def test_changed_item_shows_in_the_checksum(self):
        values = encode_store(STORE)
        self.assert_wrong(values[:2] + [98] + values[3:], len(values) - 1)
        self.assert_wrong(values[:9] + [8] + values[10:], 18)


class InvalidStoreTest(unittest.TestCase):
    def assert_wrong(self, values, part):
        with self.subTest(values=values), self.assertRaises(InvalidStore) as caught:
            decode_store(with_checksum(values))
        self.assertEqual(caught.exception.part, part)

    def test_doors(self):
        self.assert_wrong([71, 2, 1, 4, 1, 3, 1, 1, 1], "doors")
        self.assert_wrong([71, 4, 1, 4, 1, 4, 1, 4, 1, 4, 2, 1, 2, 1, 1], "doors")

    def test_crates(self):
        self.assert_wrong([71, 1, 1, 1, 2, 1, 1, 1, 2], "crates")
        self.assert_wrong([71, 1, 1, 2, 2, 1, 2, 1, 1], "crates")
        self.assert_wrong([71, 1, 1, 2, 2, 1, 1, 1, 1], "crates")

    def test_decode_error_first(self):
        for more in ([], [7]):
            with self.assertRaises(DecodeError):
                decode_store([71, 2, 1, 4, 1, 3, 1, 1, 1] + more)
        with self.assertRaises(DecodeError) as caught:
            decode_store(with_checksum([71, 2, 1, 4, 1, 3, 1, 1, 1]) + [0])
        self.assertEqual(caught.exception.offset, 10)


if __name__ == "__main__":
    unittest.main()
