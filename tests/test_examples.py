"""The examples of the interface, as the document prints them."""

import unittest

EXAMPLES = [
    """
>>> from coldcrates.stores import Store, behind, is_layout, layout_count, layouts, place_of
>>> store = Store(((5, 2), (3, 1)), ("jam", "kiwi"))
>>> told = [store.size, len(store), store.door_of(2), store.places_of(0), layout_count(store), list(layouts(store))[:2]]
>>> told + [is_layout(store, ("jam", None, None)), place_of(store, ("jam", None, "kiwi"), "kiwi"), behind(store, ("jam", None, "kiwi"), 0)]
[3, 2, 1, (0, 1), 6, [(None, 'jam', 'kiwi'), (None, 'kiwi', 'jam')], False, 2, ('jam', None)]
""",
    """
>>> from coldcrates.stores import Store
>>> Store(((5, 2),), ("kiwi", "jam"))
raises InvalidStore(part='crates')
""",
    """
>>> from coldcrates.deeds import after
>>> from coldcrates.stores import Store
>>> store, layout = Store(((5, 2), (3, 1)), ("jam", "kiwi")), ("jam", None, "kiwi")
>>> told = [after(store, layout, ("move", "jam")), after(store, layout, ("near", "kiwi"))]
>>> told + [after(store, layout, ("swap", "jam", "kiwi")), after(store, layout, ("shuffle", 0))]
[[(None, 'jam', 'kiwi')], [('jam', 'kiwi', None)], [('kiwi', None, 'jam')], [(None, 'jam', 'kiwi'), ('jam', None, 'kiwi')]]
""",
    """
>>> from coldcrates.deeds import after
>>> from coldcrates.stores import Store
>>> after(Store(((5, 2),), ("jam",)), ("jam", None), ("swap", "jam", "jam"))
raises InvalidDeed()
""",
    """
>>> from coldcrates.logs import could_lie, fewest_wrong, first, first_wrong, now, share, stories, surely_lies
>>> from coldcrates.stores import Store
>>> store, log = Store(((5, 2), (3, 1)), ("jam", "kiwi")), [("open", 0, ("?", None)), ("move", "kiwi")]
>>> wrong = log + [("open", 1, ("kiwi",))]
>>> told = [now(store, log), first(store, log), stories(store, log), could_lie(store, log), surely_lies(store, log)]
>>> told[3:] + [told[:3], share(store, log, "jam", 1), first_wrong(store, wrong), fewest_wrong(store, wrong)]
[{'jam': (0, 2), 'kiwi': (1,)}, {'kiwi': 1}, [[(None, 'kiwi', 'jam'), ('jam', 'kiwi', None)], [('jam', None, 'kiwi'), ('kiwi', None, 'jam')], 2], (1, 2), 3, (0,)]
""",
    """
>>> from coldcrates.logs import now
>>> from coldcrates.stores import Store
>>> now(Store(((5, 2),), ("jam",)), [("move", "jam"), ("open", 0, ("?",))])
raises InvalidLog(index=1)
""",
]


def outcome(statements, expression):
    """Return what an example prints, in the way of the document."""
    names = {}
    exec("\n".join(statements), names)
    try:
        return repr(eval(expression, names))
    except ValueError as error:
        told = ", ".join(f"{name}={value!r}" for name, value in vars(error).items())
        return f"raises {type(error).__name__}({told})"


class ExamplesTest(unittest.TestCase):
    def test_examples(self):
        for example in EXAMPLES:
            *code, expected = example.strip().split("\n")
            rows = [row.removeprefix(">>> ") for row in code]
            with self.subTest(example=rows[-1]):
                self.assertEqual(outcome(rows[:-1], rows[-1]), expected)


if __name__ == "__main__":
    unittest.main()
