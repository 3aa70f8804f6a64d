"""Choices of some parts out of several, which other files use."""

import itertools
import unittest

from coldcrates.choices import length_and_items, subsets


class ChoicesTest(unittest.TestCase):
    def test_subsets(self):
        for many in range(5):
            parts = tuple(range(many))
            found = [some for length in range(many + 1) for some in itertools.combinations(parts, length)]
            self.assertEqual(subsets(parts), sorted(found))

    def test_shorter_ones_first(self):
        found = sorted(subsets(("a", "b", "c")), key=length_and_items)
        self.assertEqual(found, [(), ("a",), ("b",), ("c",), ("a", "b"), ("a", "c"), ("b", "c"), ("a", "b", "c")])


if __name__ == "__main__":
    unittest.main()
