"""Points 29 and 30: scripts."""

import random
import unittest

from coldcrates.errors import ExecutionFailed, InvalidLayout, ScriptError, TooLong
from coldcrates.lives import Live
from coldcrates.scripts import run_script
from coldcrates.stores import Store
from tests.live_model import Model, told_by

STORE = Store(((5, 2), (3, 1)), ("fig", "plum"))
LAYOUT = ("plum", None, "fig")
WIDE = Store(((5, 2), (3, 2), (20, 1)), ("fig", "jam", "plum"))
WIDE_LAYOUT = ("plum", None, "fig", None, "jam")
NO_ROWS = ["", " ", "look", "look ", "look 0 ", " look 0", "look  0", "look 0 1", "look x", "look 00", "look 01",
           "look 100", "look -1", "look +1", "look 1.0", "look \u0661", "look \u00b2", "look fig", "Look 0", "look\t0",
           "put fig", "put fig 1 1", "put 1 fig", "put Fig 1", "put fig 001", "put  1", "put fig ", "put fig x",
           "put ninechars 1", "put fig-a 1", "exchange fig", "exchange fig plum jam", "exchange fig 1", "exchange",
           "exchange  fig", "exchange fig Plum", "shut 1", "shut ", "Shut", "where", "where 1", "where fig plum",
           "where ninechars", "where -", "where f\u00efg", "repeat", "repeat x", "repeat 03", "repeat 100", "repeat 1 2",
           "repeat -1", "when fig", "when 0 fig", "when fig 0 0", "when fig 00", "when", "end 1", "end ", "End", "undo",
           "redo", "keep_as x", "fetch x", "#", "look 0\r", "stop"]


def text_of(rows):
    return "\n".join(rows)


class Failed(Exception):
    """What ends the trial of a script: the class of the error, and its row."""


class ScriptTrial:
    """A script as a tree, executed as the document tells it."""

    def __init__(self, store, layout, tree):
        self.store, self.model = store, Model(store, layout)
        self.rows, self.output, self.steps = [], [], 0
        self.tree = [self.written(node) for node in tree]

    def written(self, node):
        """Write down a node, and return it with the number of its row."""
        at = len(self.rows)
        body = node[-1] if node[0] in ("repeat", "when") else None
        self.rows.append(" ".join(str(word) for word in (node if body is None else node[:-1])))
        if body is None:
            return (at, node)
        body = [self.written(part) for part in body]
        self.rows.append("end")
        return (at, node[:-1] + (body,))

    def step(self):
        self.steps += 1
        if self.steps > 300:
            raise Failed(TooLong, None)

    def execute(self, nodes):
        for at, node in nodes:
            self.step()
            lying = self.model.told_by(self.model.history)[0]
            if node[0] == "repeat":
                for _ in range(node[1]):
                    self.step()
                    self.execute(node[2])
            elif node[0] in ("when", "where"):
                if node[1] not in lying or node[0] == "when" and node[2] >= len(self.store):
                    raise Failed(ExecutionFailed, at)
                place = lying.index(node[1])
                if node[0] == "where":
                    self.output.append(str(place))
                elif self.store.door_of(place) == node[2]:
                    self.execute(node[3])
            else:
                if self.model.error(*node):
                    raise Failed(ExecutionFailed, at)
                told = self.model.apply(node)
                if node[0] == "look":
                    self.output.append(" ".join("-" if name is None else name for name in told))
                if node[0] == "shut":
                    self.output.append(str(told))


def some_tree(store, rng, depth):
    """Return a list of nodes: rows, and blocks with such lists."""
    nodes = []
    for _ in range(rng.choice([1, 2, 3]) if depth else rng.choice([2, 4, 6])):
        name, place = rng.choice(store.crates), rng.randrange(store.size)
        plain = [("look", rng.randrange(len(store))), ("shut",), ("where", name), ("where", name),
                 ("exchange",) + tuple(rng.sample(store.crates, 2)), ("put", name, place)]
        if rng.random() < 0.03:
            plain = [("look", 9), ("where", "none"), ("put", "none", 0), ("exchange", name, name)]
            plain += [("when", name, 7, []), ("when", "none", 0, [])] if depth < 4 else []
        if depth < 4 and rng.random() < 0.4:
            body = some_tree(store, rng, depth + 1)
            plain = [("repeat", rng.choice([0, 1, 2, 3, 12, 60]), body), ("when", name, rng.randrange(len(store)), body)]
        nodes.append(rng.choice(plain))
    return nodes


class TrialTest(unittest.TestCase):
    def test_scripts_of_all_kinds(self):
        ends = {}
        for seed in range(600):
            rng = random.Random(seed)
            store, layout = rng.choice([(STORE, LAYOUT), (WIDE, WIDE_LAYOUT)])
            trial = ScriptTrial(store, layout, some_tree(store, rng, 0))
            if len(trial.rows) > 60:
                continue
            try:
                trial.execute(trial.tree)
            except Failed as failed:
                error, row = failed.args
                ends[error] = ends.get(error, 0) + 1
                with self.subTest(seed=seed), self.assertRaises(error) as caught:
                    run_script(store, layout, text_of(trial.rows))
                self.assertEqual(getattr(caught.exception, "row", None), row, seed)
                continue
            live, output = run_script(store, layout, text_of(trial.rows))
            expected = trial.model.told_by(trial.model.history)[:4] + (trial.model.history,)
            self.assertEqual((told_by(live), output), (expected, trial.output), seed)
            ends[None] = ends.get(None, 0) + 1
        self.assertGreater(min(ends[None], ends[ExecutionFailed], ends[TooLong]), 15)


class RowsTest(unittest.TestCase):
    def assert_runs(self, rows, layout, output, history):
        live, told = run_script(STORE, LAYOUT, text_of(rows))
        self.assertIsInstance(live, Live)
        self.assertIsInstance(told, list)
        self.assertEqual((live.layout_now, told, live.history), (layout, output, history))
        self.assertEqual(told_by(live), told_by(Live.replay(STORE, LAYOUT, history)))

    def test_empty_text(self):
        live, output = run_script(STORE, LAYOUT, "")
        self.assertEqual((told_by(live), output), ((LAYOUT, 0, [], [], []), []))

    def test_each_kind(self):
        self.assert_runs(["look 0"], LAYOUT, ["plum -"], [("look", 0)])
        self.assert_runs(["look 1"], LAYOUT, ["fig"], [("look", 1)])
        self.assert_runs(["put plum 1", "look 0"], (None, "plum", "fig"), ["- plum"], [("put", "plum", 1), ("look", 0)])
        self.assert_runs(["exchange fig plum"], ("fig", None, "plum"), [], [("exchange", "fig", "plum")])
        self.assert_runs(["shut"], LAYOUT, ["0"], [("shut",)])
        self.assert_runs(["look 0", "shut", "shut"], LAYOUT, ["plum -", "5", "0"], [("look", 0), ("shut",), ("shut",)])
        self.assert_runs(["where fig", "where plum"], LAYOUT, ["2", "0"], [])
        self.assert_runs(["put fig 1", "put fig 2", "look 1"], LAYOUT, ["fig"],
                         [("put", "fig", 1), ("put", "fig", 2), ("look", 1)])

    def test_free_door(self):
        self.assert_runs(["put fig 1", "look 1"], ("plum", "fig", None), ["-"], [("put", "fig", 1), ("look", 1)])

    def test_repeat(self):
        self.assert_runs(["repeat 0", "look 9", "end"], LAYOUT, [], [])
        self.assert_runs(["repeat 1", "look 1", "end"], LAYOUT, ["fig"], [("look", 1)])
        self.assert_runs(["repeat 10", "shut", "end", "where fig"], LAYOUT, ["0"] * 10 + ["2"], [("shut",)] * 10)
        self.assert_runs(["repeat 3", "end"], LAYOUT, [], [])

    def test_when(self):
        self.assert_runs(["when fig 1", "shut", "end"], LAYOUT, ["0"], [("shut",)])
        self.assert_runs(["when fig 0", "look 9", "end", "where fig"], LAYOUT, ["2"], [])
        self.assert_runs(["when plum 0", "end"], LAYOUT, [], [])
        # The place counts when the row is executed.
        rows = ["repeat 2", "when plum 0", "exchange fig plum", "end", "when fig 0", "where fig", "end", "end"]
        self.assert_runs(rows, ("fig", None, "plum"), ["0", "0"], [("exchange", "fig", "plum")])

    def test_blocks_in_blocks(self):
        rows = ["repeat 2"] * 4 + ["shut"] + ["end"] * 4
        self.assert_runs(rows, LAYOUT, ["0"] * 16, [("shut",)] * 16)
        rows = ["when fig 1", "repeat 2", "when plum 0", "repeat 1", "where fig"] + ["end"] * 4 + ["repeat 2", "shut", "end"]
        self.assert_runs(rows, LAYOUT, ["2", "2", "0", "0"], [("shut",)] * 2)
        rows = ["repeat 2", "repeat 1", "where fig", "end", "repeat 1", "where plum", "end", "end"]
        self.assert_runs(rows, LAYOUT, ["2", "0"] * 2, [])

    def test_integers_in_the_history(self):
        live, _ = run_script(STORE, LAYOUT, "put plum 1\nlook 0")
        self.assertEqual([type(told) for operation in live.history for told in operation], [str, str, int, str, int])

    def test_live_store_behind_a_script(self):
        live, output = run_script(STORE, LAYOUT, "look 0\nshut\nrepeat 2\nlook 1\nend\nwhere fig")
        self.assertEqual(output, ["plum -", "5", "fig", "fig", "2"])
        history = [("look", 0), ("shut",), ("look", 1), ("look", 1)]
        self.assertEqual(told_by(live), (LAYOUT, 6, [5], [], history))
        self.assertIs(live.redo(), False)
        self.assertEqual([live.undo() for _ in range(5)], [True] * 4 + [False])
        self.assertEqual(live.keep_as("x"), False)


class ScriptErrorTest(unittest.TestCase):
    def assert_wrong(self, rows, row):
        with self.subTest(rows=rows), self.assertRaises(ScriptError) as caught:
            run_script(STORE, LAYOUT, text_of(rows))
        self.assertEqual(caught.exception.row, row)

    def test_no_rows(self):
        for wrong in NO_ROWS:
            self.assert_wrong(["look 0", wrong], 1)
            self.assert_wrong(["look 9", "repeat 0", wrong, "end", wrong, "end", "end"], 2)
            if wrong != "":
                self.assert_wrong([wrong], 0)
                self.assert_wrong([wrong, "shut", wrong], 0)

    def test_empty_rows(self):
        self.assert_wrong(["", ""], 0)
        self.assert_wrong(["shut", ""], 1)
        self.assert_wrong(["", "shut"], 0)

    def test_end_too_many(self):
        self.assert_wrong(["end"], 0)
        self.assert_wrong(["repeat 1", "end", "end", "repeat 1"], 2)
        self.assert_wrong(["end", "repeat 1"], 0)

    def test_end_missing(self):
        self.assert_wrong(["repeat 1"], 1)
        self.assert_wrong(["look 9", "when none 9", "shut"], 3)
        self.assert_wrong(["repeat 0", "when fig 0", "end", "look 9"], 4)
        self.assert_wrong(["repeat 0"] + ["shut"] * 59, 60)

    def test_five_deep(self):
        self.assert_wrong(["repeat 1"] * 5 + ["end"] * 5, 4)
        self.assert_wrong(["when fig 0"] * 5 + ["end"] * 5, 4)
        self.assert_wrong(["repeat 0", "when fig 0"] * 2 + ["end", "when fig 1", "shut", "repeat 1", "look"], 7)
        self.assert_wrong(["repeat 1"] * 5, 4)

    def test_sixty_rows(self):
        self.assertEqual(run_script(STORE, LAYOUT, text_of(["shut"] * 60))[1], ["0"] * 60)
        for last in ("shut", "none", "end", "repeat 1"):
            self.assert_wrong(["shut"] * 60 + [last], 60)
        self.assert_wrong(["shut"] * 70, 60)
        self.assert_wrong(["repeat 1"] + ["shut"] * 60, 60)
        self.assert_wrong(["repeat 1"] + ["shut"] * 59 + ["end"], 60)

    def test_first_of_several(self):
        self.assert_wrong(["shut"] * 59 + ["none", "shut"], 59)
        self.assert_wrong(["shut"] * 3 + ["end"] + ["shut"] * 60, 3)
        self.assert_wrong(["repeat 1"] * 4 + ["none", "repeat 1"], 4)
        self.assert_wrong(["repeat 1"] * 5 + ["none"], 4)

    def test_ahead_of_all_execution(self):
        self.assert_wrong(["look 9", "put fig 9", "none"], 2)


class ExecutionFailedTest(unittest.TestCase):
    def assert_failed(self, rows, row):
        with self.subTest(rows=rows), self.assertRaises(ExecutionFailed) as caught:
            run_script(STORE, LAYOUT, text_of(rows))
        self.assertEqual(caught.exception.row, row)

    def test_each_cause(self):
        for wrong in ("look 2", "look 99", "put jam 1", "put fig 3", "put fig 99", "put fig 0", "put fig 2", "put jam 9",
                      "exchange fig jam", "exchange jam fig", "exchange fig fig", "where jam"):
            self.assert_failed([wrong], 0)
            self.assert_failed(["look 0", "shut", wrong, wrong], 2)
            self.assert_failed(["repeat 2", "when fig 1", "shut", wrong, "end", "end"], 3)

    def test_blocks(self):
        for wrong in ("when jam 0", "when fig 2", "when jam 2", "when plum 99"):
            self.assert_failed([wrong, "shut", "end"], 0)
            self.assert_failed(["repeat 1", wrong, "end", "end"], 1)

    def test_right_in_another_store(self):
        rows = ["look 0", "put jam 3", "look 2"]
        self.assertEqual(run_script(WIDE, WIDE_LAYOUT, text_of(rows))[1], ["plum -", "-"])
        self.assert_failed(rows, 1)
        self.assert_failed(rows[:1] + rows[2:], 1)

    def test_later_time(self):
        self.assert_failed(["repeat 2", "shut", "put plum 1", "end"], 2)
        self.assert_failed(["repeat 9", "when plum 0", "put plum 1", "end", "when plum 0", "end", "put fig 1", "end"], 6)

    def test_not_executed(self):
        rows = ["repeat 0", "look 9", "end", "when fig 0", "where jam", "when jam 9", "end", "end"]
        self.assertEqual(run_script(STORE, LAYOUT, text_of(rows))[1], [])


class TooLongTest(unittest.TestCase):
    def assert_steps(self, rows, steps):
        """Check that rows take so many steps, by adding as many as can be."""
        free = 300 - steps
        # A repeat without rows takes a step, and one for each time.
        fill = []
        while free > 100:
            fill += ["repeat 99", "end"]
            free -= 100
        if free > 0:
            fill += [f"repeat {free - 1}", "end"]
        run_script(STORE, LAYOUT, text_of(rows + fill))
        run_script(STORE, LAYOUT, text_of(fill + rows))
        for more in ("shut", "repeat 0\nend", "when fig 0\nend", "where fig", "look 9", "where jam"):
            with self.subTest(rows=rows, more=more), self.assertRaises(TooLong):
                run_script(STORE, LAYOUT, text_of(rows + fill + [more]))

    def test_rows(self):
        self.assert_steps([], 0)
        for row in ("look 0", "put plum 1", "exchange fig plum", "shut", "where fig"):
            self.assert_steps([row], 1)

    def test_blocks(self):
        self.assert_steps(["repeat 0", "shut", "end"], 1)
        self.assert_steps(["repeat 1", "shut", "end"], 3)
        self.assert_steps(["repeat 5", "shut", "where fig", "end"], 16)
        self.assert_steps(["repeat 98", "shut", "where fig", "end"], 295)
        self.assert_steps(["when fig 1", "shut", "end"], 2)
        self.assert_steps(["when fig 0", "shut", "end"], 1)
        self.assert_steps(["repeat 2", "repeat 3", "shut", "end", "when fig 1", "end", "end"], 1 + 2 * (1 + 7 + 1))

    def test_repeats_without_rows(self):
        run_script(STORE, LAYOUT, text_of(["repeat 99", "end"] * 3))
        with self.assertRaises(TooLong):
            run_script(STORE, LAYOUT, text_of(["repeat 99", "end"] * 2 + ["repeat 98", "end", "shut", "shut"]))
        with self.assertRaises(TooLong):
            run_script(STORE, LAYOUT, text_of(["repeat 99", "end"] * 4))
        with self.assertRaises(TooLong):
            run_script(STORE, LAYOUT, text_of(["repeat 99", "repeat 99", "end", "end"]))

    def test_error_in_the_last_step_or_behind_it(self):
        full = ["repeat 99", "end"] * 2 + ["repeat 97", "end"]
        with self.assertRaises(ExecutionFailed) as caught:
            run_script(STORE, LAYOUT, text_of(full + ["shut", "look 9"]))
        self.assertEqual(caught.exception.row, 7)
        with self.assertRaises(TooLong):
            run_script(STORE, LAYOUT, text_of(full + ["shut", "shut", "look 9"]))
        # The times of a repeat are steps ahead of their rows.
        with self.assertRaises(ExecutionFailed):
            run_script(STORE, LAYOUT, text_of(["repeat 99", "end"] * 2 + ["repeat 96", "end", "repeat 1", "look 9", "end"]))
        with self.assertRaises(TooLong):
            run_script(STORE, LAYOUT, text_of(full + ["repeat 1", "look 9", "end"]))


class InvalidLayoutTest(unittest.TestCase):
    def test_first(self):
        for layout in (("plum", "fig"), ("plum", "plum", None), list(LAYOUT), None):
            for text in ("", "none", "look 9", "repeat 99\nend\n" * 4):
                with self.subTest(layout=layout, text=text), self.assertRaises(InvalidLayout):
                    run_script(STORE, layout, text)


class PlainTest(unittest.TestCase):
    """Point 1: returned lists may be changed, and a second call returns the same."""

    def test_repeated(self):
        text = "look 0\nrepeat 2\nput plum 1\nput plum 0\nend\nshut\nlook 1"
        live, output = run_script(STORE, LAYOUT, text)
        told = told_by(live)
        output.clear()
        live.undo()
        again, output = run_script(STORE, LAYOUT, text)
        self.assertEqual((told_by(again), output), (told, ["plum -", "25", "fig"]))


if __name__ == "__main__":
    unittest.main()
