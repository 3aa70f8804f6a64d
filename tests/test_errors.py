"""The errors of the interface and their attributes."""

import unittest

from coldcrates import errors

ATTRIBUTES = {
    "InvalidStore": ("part",),
    "UnknownPlace": (),
    "UnknownDoor": (),
    "UnknownCrate": (),
    "InvalidLayout": (),
    "InvalidDeed": (),
    "InvalidLog": ("index",),
    "NoLayout": (),
    "InvalidRow": (),
    "TooMany": (),
    "InvalidNames": (),
    "InvalidPairs": ("index",),
    "InvalidHabits": (),
    "InvalidNumber": (),
    "InvalidHands": ("name",),
    "InvalidDay": ("index",),
    "InvalidOpenings": ("index",),
    "InvalidRows": ("index",),
    "InvalidPlan": ("index",),
    "TakenPlace": (),
    "InvalidName": (),
    "UnknownKept": (),
    "InvalidOperation": ("index",),
    "InvalidSight": (),
    "InvalidText": ("row", "word"),
    "DecodeError": ("offset",),
    "ScriptError": ("row",),
    "ExecutionFailed": ("row",),
    "TooLong": (),
}


class ErrorsTest(unittest.TestCase):
    def test_base_class(self):
        self.assertEqual(errors.StoreError.__bases__, (ValueError,))

    def test_direct_subclasses(self):
        for name in ATTRIBUTES:
            with self.subTest(name=name):
                self.assertEqual(getattr(errors, name).__bases__, (errors.StoreError,))
                self.assertEqual(getattr(errors, name).__module__, "coldcrates.errors")

    def test_attributes(self):
        for name, attributes in ATTRIBUTES.items():
            with self.subTest(name=name):
                values = list(range(3, 3 + len(attributes)))
                error = getattr(errors, name)(*values)
                self.assertEqual(vars(error), dict(zip(attributes, values)))

    def test_attributes_by_keyword(self):
        self.assertEqual(vars(errors.InvalidText(word=2, row=1)), {"row": 1, "word": 2})
        self.assertEqual(errors.InvalidStore(part="doors").part, "doors")

    def test_errors_without_attributes_take_a_message(self):
        self.assertEqual(str(errors.NoLayout("nothing is left")), "nothing is left")

    def test_no_other_errors(self):
        found = {name for name, value in vars(errors).items() if isinstance(value, type)}
        self.assertEqual(found, set(ATTRIBUTES) | {"StoreError"})


if __name__ == "__main__":
    unittest.main()
