"""The examples of the interface, as the document prints them."""

import unittest

EXAMPLES = [
    """
>>> from coldcrates.stores import Store, behind, is_layout, layout_count, layouts, place_of
>>> store = Store(((5, 2), (3, 1)), ("jam", "kiwi"))
>>> told = [store.size, len(store), store.door_of(2), store.places_of(0), layout_count(store), list(layouts(store))[:2]]
>>> told + [is_layout(store, ("jam", None, None)), place_of(store, ("jam", None, "kiwi"), "kiwi"), behind(store, ("jam", None, "kiwi"), 0)]
[3, 2, 1, (0, 1), 6, [(None, 'jam', 'kiwi'), (None, 'kiwi', 'jam')], False, 2, ('jam', None)]
""",
    """
>>> from coldcrates.stores import Store
>>> Store(((5, 2),), ("kiwi", "jam"))
raises InvalidStore(part='crates')
""",
    """
>>> from coldcrates.deeds import after
>>> from coldcrates.stores import Store
>>> store, layout = Store(((5, 2), (3, 1)), ("jam", "kiwi")), ("jam", None, "kiwi")
>>> told = [after(store, layout, ("move", "jam")), after(store, layout, ("near", "kiwi"))]
>>> told + [after(store, layout, ("swap", "jam", "kiwi")), after(store, layout, ("shuffle", 0))]
[[(None, 'jam', 'kiwi')], [('jam', 'kiwi', None)], [('kiwi', None, 'jam')], [(None, 'jam', 'kiwi'), ('jam', None, 'kiwi')]]
""",
    """
>>> from coldcrates.deeds import after
>>> from coldcrates.stores import Store
>>> after(Store(((5, 2),), ("jam",)), ("jam", None), ("swap", "jam", "jam"))
raises InvalidDeed()
""",
    """
>>> from coldcrates.logs import could_lie, fewest_wrong, first, first_wrong, now, share, stories, surely_lies
>>> from coldcrates.stores import Store
>>> store, log = Store(((5, 2), (3, 1)), ("jam", "kiwi")), [("open", 0, ("?", None)), ("move", "kiwi")]
>>> wrong = log + [("open", 1, ("kiwi",))]
>>> told = [now(store, log), first(store, log), stories(store, log), could_lie(store, log), surely_lies(store, log)]
>>> told[3:] + [told[:3], share(store, log, "jam", 1), first_wrong(store, wrong), fewest_wrong(store, wrong)]
[{'jam': (0, 2), 'kiwi': (1,)}, {'kiwi': 1}, [[(None, 'kiwi', 'jam'), ('jam', 'kiwi', None)], [('jam', None, 'kiwi'), ('kiwi', None, 'jam')], 2], (1, 2), 3, (0,)]
""",
    """
>>> from coldcrates.logs import now
>>> from coldcrates.stores import Store
>>> now(Store(((5, 2),), ("jam",)), [("move", "jam"), ("open", 0, ("?",))])
raises InvalidLog(index=1)
""",
    """
>>> from coldcrates.finding import best_search, doors_to_know, least_mean, least_to_know, least_warmth, next_door, search
>>> from coldcrates.stores import Store
>>> store = Store(((5, 2), (3, 1)), ("jam", "kiwi"))
>>> told = [search(store, ("jam", None, "kiwi"), "kiwi", (0, 1)), best_search(store, [], "kiwi"), least_warmth(store, [], "kiwi")]
>>> told + [least_mean(store, [], "kiwi"), least_to_know(store, []), doors_to_know(store, []), next_door(store, [])]
[8, (8, (0, 1)), 8, (6, 1), 5, (5, (0,)), 0]
""",
    """
>>> from coldcrates.stores import Store
>>> from coldcrates.taking import is_sorted, least_sorting, least_steps, takings
>>> store, layout = Store(((5, 2), (3, 2)), ("fig", "jam", "kiwi")), ("jam", "fig", "kiwi", None)
>>> told = [takings(store, layout, ("fig", "jam", "kiwi"), (("jam", "kiwi"), ("kiwi", "fig")))]
>>> told.extend([takings(store, layout, ("kiwi", "jam", "fig"), ()), is_sorted(store, layout)])
>>> told + [least_steps(store, layout, ("fig", "jam", "kiwi", None)), least_sorting(store, layout)]
[(13, ('jam', 'kiwi', 'fig')), (8, ('fig', 'jam', 'kiwi')), False, (21, [('fig', 3), ('jam', 1), ('fig', 0)]), (11, [('kiwi', 3), ('jam', 2)], (None, 'fig', 'jam', 'kiwi'))]
""",
    """
>>> from coldcrates.hands import deeds_between, least_habits, who_could
>>> from coldcrates.stores import Store
>>> store, one = Store(((5, 2), (3, 2)), ("fig", "jam", "kiwi")), ("jam", "fig", "kiwi", None)
>>> other, hands = ("fig", "jam", "kiwi", None), {"ann": ("move",), "bob": ("shuffle",)}
>>> [deeds_between(store, ("swap",), one, other, 2), who_could(store, hands, one, other, 1), least_habits(store, one, other, 1)]
[1, ['bob'], ('shuffle',)]
""",
    """
>>> from coldcrates.hours import best_openings, first_thaw, hours_for, warmths
>>> from coldcrates.stores import Store
>>> store = Store(((5, 2), (3, 1)), ("fig", "plum"))
>>> told = [warmths(store, 2, (0, None), 3), warmths(store, 2, (0, None), 10 ** 18), first_thaw(store, 2, (0, None), 7)]
>>> told + [hours_for(store, 2, 6, (0, 0, 1)), best_openings(store, 2, 6, (0, 0, 1))]
[(4, 0), (500000000000000000, 0), (6, 0), 4, (3, (0, 1, 0))]
""",
    """
>>> from coldcrates.hours import warmths
>>> from coldcrates.stores import Store
>>> store = Store(((5, 2), (3, 1)), ("fig", "plum"))
>>> warmths(store, 1, (0, 2), 1)
raises InvalidDay(index=1)
""",
    """
>>> from coldcrates.speaking import first_to_know, needed_doors, spoken
>>> from coldcrates.stores import Store
>>> store = Store(((5, 2), (3, 1)), ("fig",))
>>> rows = ((1,), ())
>>> [spoken(store, ("fig", None, None), "fig", rows), spoken(store, (None, None, "fig"), "fig", rows), first_to_know(store, (None, None, "fig"), "fig", rows), needed_doors(store, ("fig", None, None), "fig", rows, 1)]
[((False, False, False, False), 2), ((True, True, True, True), 1), (0, 0), (0,)]
""",
    """
>>> from coldcrates.speaking import spoken
>>> from coldcrates.stores import Store
>>> store = Store(((5, 2), (3, 1)), ("fig", "plum"))
>>> spoken(store, ("fig", "plum", None), "fig", ((0,), (2,)))
raises InvalidRows(index=1)
""",
    """
>>> from coldcrates.plans import least_fixed, least_plan, worth_moving
>>> from coldcrates.stores import Store
>>> store = Store(((5, 2), (3, 1)), ("fig", "plum"))
>>> plan = (("in", "fig"), ("in", "plum"), ("out", "fig"))
>>> [least_plan(store, plan), least_fixed(store, plan), worth_moving(store, plan)]
[(5, (0, 1, 0)), (5, (0, 1, 0)), 0]
""",
    """
>>> from coldcrates.plans import least_plan
>>> from coldcrates.stores import Store
>>> store = Store(((5, 2), (3, 1)), ("fig", "plum"))
>>> least_plan(store, (("in", "fig"), ("out", "plum")))
raises InvalidPlan(index=1)
""",
    """
>>> from coldcrates.lives import Live
>>> from coldcrates.stores import Store
>>> store = Store(((5, 2), (3, 1)), ("fig", "plum"))
>>> live = Live(store, ("plum", None, "fig"))
>>> told = live.apply_all([("look", 0), ("put", "plum", 1), ("exchange", "fig", "plum"), ("shut",), ("keep_as", "x")])
>>> [told, live.layout_now, live.warmth_now, live.day_warmths, live.undo(), live.undo(), live.warmth_now]
[[('plum', None), 0, True, 18, False], (None, 'fig', 'plum'), 0, [18], True, True, 18]
""",
    """
>>> from coldcrates.lives import Live
>>> from coldcrates.stores import Store
>>> store = Store(((5, 2), (3, 1)), ("fig", "plum"))
>>> Live(store, ("plum", None, "fig")).put("fig", 0)
raises TakenPlace()
""",
    """
>>> from coldcrates.keepers import Keeper
>>> from coldcrates.stores import Store
>>> store = Store(((5, 2), (3, 1)), ("fig", "plum"))
>>> keeper = Keeper(store, [("open", 0, ("plum", None))])
>>> [keeper.layouts_left, keeper.next_doors(), keeper.saw((0,)), keeper.could_have_moved(), keeper.saw((1, 0)), keeper.layouts_left]
[(('plum', None, 'fig'),), [(0,), (1, 0)], 1, ['plum'], 1, (('fig', 'plum', None),)]
""",
    """
>>> from coldcrates.keepers import Keeper
>>> from coldcrates.stores import Store
>>> store = Store(((5, 2), (3, 1)), ("fig", "plum"))
>>> Keeper(store, []).saw((0, 0))
raises InvalidSight()
""",
    """
>>> from coldcrates.stores import Store
>>> from coldcrates.tables import shelf, table
>>> store = Store(((5, 2), (3, 1)), ("fig", "plum"))
>>> [table(store, [("open", 1, ("fig",))]), shelf(store, ("plum", None, "fig"))]
['fig ..|#\\nplum ++|.', '0: plum -\\n1: fig']
""",
    """
>>> from coldcrates.notation import format_store, parse_store
>>> from coldcrates.stores import Store
>>> store = Store(((5, 2), (3, 1)), ("fig", "plum"))
>>> [format_store(store), parse_store(format_store(store)) == store]
['door 5 2\\ndoor 3 1\\ncrates fig plum', True]
""",
    """
>>> from coldcrates.notation import parse_store
>>> parse_store("door 5 2\\ncrates plum fig")
raises InvalidText(row=1, word=2)
""",
    """
>>> from coldcrates.codec import decode_store, encode_store
>>> from coldcrates.stores import Store
>>> values = encode_store(Store(((9, 2),), ("fig",)))
>>> [values, decode_store(values).doors]
[[71, 1, 9, 2, 1, 3, 6, 9, 7, 96], ((9, 2),)]
""",
    """
>>> from coldcrates.codec import decode_store
>>> decode_store([71, 5])
raises DecodeError(offset=1)
""",
    """
>>> from coldcrates.scripts import run_script
>>> from coldcrates.stores import Store
>>> store = Store(((5, 2), (3, 1)), ("fig", "plum"))
>>> lines = ["look 0", "when fig 1", "exchange fig plum", "end", "repeat 2", "put plum 1", "put plum 2", "end", "where plum", "shut"]
>>> live, output = run_script(store, ("plum", None, "fig"), "\\n".join(lines))
>>> [live.layout_now, output, len(live.history)]
[('fig', None, 'plum'), ['plum -', '2', '45'], 7]
""",
    """
>>> from coldcrates.scripts import run_script
>>> from coldcrates.stores import Store
>>> store = Store(((5, 2), (3, 1)), ("fig", "plum"))
>>> run_script(store, ("plum", None, "fig"), "look 2")
raises ExecutionFailed(row=0)
""",
]


def outcome(statements, expression):
    """Return what an example prints, in the way of the document."""
    names = {}
    exec("\n".join(statements), names)
    try:
        return repr(eval(expression, names))
    except ValueError as error:
        told = ", ".join(f"{name}={value!r}" for name, value in vars(error).items())
        return f"raises {type(error).__name__}({told})"


class ExamplesTest(unittest.TestCase):
    def test_examples(self):
        for example in EXAMPLES:
            *code, expected = example.strip().split("\n")
            rows = [row.removeprefix(">>> ") for row in code]
            with self.subTest(example=rows[-1]):
                self.assertEqual(outcome(rows[:-1], rows[-1]), expected)


if __name__ == "__main__":
    unittest.main()
