"""Points 23 and 24: a live store, undoing, lists of operations, and trials."""

import copy
import random
import unittest

from coldcrates.errors import (InvalidLayout, InvalidName, InvalidOperation, StoreError, TakenPlace, UnknownCrate,
                               UnknownDoor, UnknownKept, UnknownPlace)
from coldcrates.lives import Live, Trial
from coldcrates.stores import Store
from tests.live_model import Model, told_by

STORE = Store(((5, 2), (3, 1)), ("fig", "plum"))
LAYOUT = ("plum", None, "fig")
WIDE = Store(((5, 2), (3, 2), (20, 1)), ("fig", "jam", "plum"))
WIDE_LAYOUT = ("plum", None, "fig", None, "jam")
WRONG_NUMBERS = [-1, 3, True, False, None, "0", 10 ** 18]
WRONG_NAMES = ["jam", "", None, True, 0, "Fig"]
NO_OPERATIONS = [(), ["look", 0], "look", None, 0, ("look",), ("look", 0, 0), ("put", "fig"), ("put", "fig", 1, 1),
                 ("exchange", "fig"), ("exchange",), ("shut", 0), ("keep_as",), ("keep_as", "x", "y"), ("fetch",),
                 ("undo", 1), ("redo", None), ("apply_all", []), ("history",), ("layout_now",), ("replay", 1, 2, 3),
                 ("tried_out", [], True), ("Look", 0), ("", 0), (None, 0), (0,), (True,), (("look",), 0), (["look"], 0)]


def all_told(live):
    """Return all that a live store tells, what can be undone and redone among it; it stays as it is."""
    told = [told_by(live)]
    undone = redone = 0
    while live.redo():
        redone += 1
        told.append(told_by(live))
    for _ in range(redone):
        live.undo()
    while live.undo():
        undone += 1
        told.append(told_by(live))
    for _ in range(undone):
        live.redo()
    return told + [undone, redone]


def busy(layout=LAYOUT):
    """Return a live store with something behind it, something undone, and something kept."""
    live = Live(STORE, layout)
    live.apply_all([("look", 1), ("shut",), ("keep_as", "x"), ("put", "plum", 1), ("look", 0), ("look", 1)])
    live.undo()
    live.undo()
    return live


def some_operation(store, rng):
    names, words = list(store.crates) + ["none"], ["x", "y", "z", "", "Wrong"]
    return rng.choice([
        ("look", rng.randrange(len(store) + 1)), ("put", rng.choice(names), rng.randrange(store.size + 1)),
        ("put", rng.choice(store.crates), rng.randrange(store.size)), ("shut",), ("fetch", rng.choice(words)),
        ("exchange", rng.choice(names), rng.choice(store.crates)), ("keep_as", rng.choice(words)),
        ("keep_as", rng.choice("xyz")), ("fetch", rng.choice("xyz")), ("undo",), ("undo",), ("redo",), ("redo",)])


def call(live, operation):
    return getattr(live, operation[0])(*operation[1:])


class ModelTest(unittest.TestCase):
    """Many operations, right and wrong ones, compared with the model."""

    def assert_alike(self, live, model):
        self.assertEqual(told_by(live), model.told_by(model.history)[:4] + (model.history,))

    def test_operations_one_by_one(self):
        for seed in range(40):
            rng = random.Random(seed)
            store, layout = rng.choice([(STORE, LAYOUT), (WIDE, WIDE_LAYOUT)])
            live, model = Live(store, layout), Model(store, layout)
            for _ in range(60):
                operation = some_operation(store, rng)
                error = None if operation[0] in ("undo", "redo") else model.error(*operation)
                if error:
                    with self.assertRaises(error):
                        call(live, operation)
                else:
                    self.assertEqual(call(live, operation), model.apply(operation), (seed, operation))
                self.assert_alike(live, model)

    def test_lists_of_operations(self):
        failed = 0
        for seed in range(60):
            rng = random.Random(seed)
            store, layout = rng.choice([(STORE, LAYOUT), (WIDE, WIDE_LAYOUT)])
            live, model = Live(store, layout), Model(store, layout)
            for _ in range(15):
                operations = [some_operation(store, rng) for _ in range(rng.randrange(5))]
                trial, error, results = copy.deepcopy(model), None, []
                for operation in operations:
                    error = error or (None if operation[0] in ("undo", "redo") else trial.error(*operation))
                    results += [] if error else [trial.apply(operation)]
                stays = rng.choice([None, True, False])
                apply = live.apply_all if stays is None else lambda some: live.tried_out(some, stays)
                if error:
                    failed += 1
                    with self.assertRaises(error):
                        apply(operations)
                else:
                    self.assertEqual(apply(operations), results, (seed, operations))
                    model = model if stays is False else trial
                self.assert_alike(live, model)
        self.assertGreater(failed, 100)


class NewTest(unittest.TestCase):
    def test_at_first(self):
        self.assertEqual(told_by(Live(STORE, LAYOUT)), (LAYOUT, 0, [], [], []))

    def test_wrong_layouts(self):
        for layout in (("plum", "fig"), ("plum", "plum", None), (None,) * 3, list(LAYOUT), None, ("plum", "jam", None)):
            with self.subTest(layout=layout), self.assertRaises(InvalidLayout):
                Live(STORE, layout)


class OperationsTest(unittest.TestCase):
    def setUp(self):
        self.live = Live(WIDE, WIDE_LAYOUT)

    def assert_told(self, layout, warmth, days, kept, history):
        self.assertEqual(told_by(self.live), (layout, warmth, days, kept, history))

    def test_look(self):
        self.assertEqual(self.live.look(0), ("plum", None))
        self.assert_told(WIDE_LAYOUT, 5, [], [], [("look", 0)])
        self.assertEqual(self.live.look(2), ("jam",))
        self.assertEqual(self.live.look(0), ("plum", None))
        self.assert_told(WIDE_LAYOUT, 30, [], [], [("look", 0), ("look", 2), ("look", 0)])

    def test_put(self):
        self.assertEqual(self.live.put("plum", 1), 0)
        self.assert_told((None, "plum", "fig", None, "jam"), 5, [], [], [("put", "plum", 1)])
        self.assertEqual(self.live.put("jam", 3), 4)
        self.assert_told((None, "plum", "fig", "jam", None), 28, [], [], [("put", "plum", 1), ("put", "jam", 3)])

    def test_exchange(self):
        self.assertIs(self.live.exchange("plum", "fig"), False)
        self.assert_told(("fig", None, "plum", None, "jam"), 8, [], [], [("exchange", "plum", "fig")])
        self.assertIs(self.live.exchange("jam", "plum"), True)
        self.assertEqual(self.live.layout_now, ("fig", None, "jam", None, "plum"))
        self.assertEqual(self.live.warmth_now, 31)

    def test_exchange_behind_one_door(self):
        live = Live(STORE, ("plum", "fig", None))
        self.assertIs(live.exchange("fig", "plum"), True)
        self.assertEqual(told_by(live), (("fig", "plum", None), 5, [], [], [("exchange", "fig", "plum")]))
        self.assertIs(live.exchange("fig", "plum"), False)

    def test_shut(self):
        self.assertEqual(self.live.shut(), 0)
        self.live.look(0)
        self.live.put("plum", 3)
        self.assertEqual(self.live.shut(), 13)
        self.assertEqual(self.live.shut(), 0)
        self.assertEqual((self.live.warmth_now, self.live.day_warmths), (0, [0, 13, 0]))
        self.assertEqual(self.live.history, [("shut",), ("look", 0), ("put", "plum", 3), ("shut",), ("shut",)])

    def test_keep_as_and_fetch(self):
        self.live.look(0)
        self.live.shut()
        self.live.look(1)
        self.assertIs(self.live.keep_as("y"), False)
        self.assertEqual(self.live.warmth_now, 3)
        self.live.put("plum", 1)
        self.assertIs(self.live.keep_as("x"), False)
        self.live.shut()
        self.assertEqual(self.live.kept_under, ["x", "y"])
        self.assertEqual(self.live.fetch("y"), WIDE_LAYOUT)
        self.assertEqual(told_by(self.live)[:4], (WIDE_LAYOUT, 3, [5], ["x", "y"]))
        self.assertEqual(self.live.fetch("x"), (None, "plum", "fig", None, "jam"))
        self.assertEqual(told_by(self.live)[:4], ((None, "plum", "fig", None, "jam"), 8, [5], ["x", "y"]))
        self.assertEqual(len(self.live.history), 9)
        self.assertEqual(self.live.history[-2:], [("fetch", "y"), ("fetch", "x")])

    def test_shut_behind_a_fetch(self):
        self.live.look(2)
        self.live.keep_as("x")
        self.live.look(0)
        self.live.shut()
        self.live.look(1)
        self.live.fetch("x")
        self.live.look(1)
        self.assertEqual(self.live.shut(), 23)
        self.assertEqual(self.live.day_warmths, [23])

    def test_keep_as_twice(self):
        self.live.keep_as("x")
        self.live.put("plum", 1)
        self.assertIs(self.live.keep_as("x"), True)
        self.live.put("plum", 0)
        self.assertEqual(self.live.kept_under, ["x"])
        self.assertEqual(self.live.fetch("x"), (None, "plum", "fig", None, "jam"))
        for _ in range(3):
            self.live.undo()
        # The second keep_as is undone, so what was kept by the first one counts.
        self.assertEqual(self.live.fetch("x"), WIDE_LAYOUT)

    def test_what_is_kept_is_not_kept_itself(self):
        self.live.keep_as("x")
        self.live.keep_as("y")
        self.live.fetch("x")
        self.assertEqual(self.live.kept_under, ["x", "y"])
        self.assertIs(self.live.keep_as("y"), True)

    def test_undone_keep_as(self):
        self.live.keep_as("x")
        self.live.undo()
        self.assertEqual(self.live.kept_under, [])
        with self.assertRaises(UnknownKept):
            self.live.fetch("x")
        self.live.redo()
        self.assertEqual(self.live.fetch("x"), WIDE_LAYOUT)

    def test_lists_are_new(self):
        live = busy()
        before = told_by(live)
        for name in ("day_warmths", "kept_under", "history"):
            self.assertIsInstance(getattr(live, name), list)
            getattr(live, name).append("more")
            getattr(live, name).clear()
            self.assertIsNot(getattr(live, name), getattr(live, name))
        self.assertEqual(told_by(live), before)


class ErrorsTest(unittest.TestCase):
    """Each cause of each error, and that nothing changes then."""

    def assert_raises(self, error, *operation):
        live = busy()
        before = all_told(live)
        with self.subTest(operation=operation), self.assertRaises(error):
            call(live, operation)
        self.assertEqual(all_told(live), before)

    def test_look(self):
        for door in WRONG_NUMBERS + [2]:
            self.assert_raises(UnknownDoor, "look", door)

    def test_put(self):
        for name in WRONG_NAMES:
            self.assert_raises(UnknownCrate, "put", name, 0)
            self.assert_raises(UnknownCrate, "put", name, 9)
        for place in WRONG_NUMBERS:
            self.assert_raises(UnknownPlace, "put", "fig", place)
        for name, place in (("fig", 2), ("plum", 2), ("fig", 1), ("plum", 1)):
            self.assert_raises(TakenPlace, "put", name, place)

    def test_exchange(self):
        for name in WRONG_NAMES:
            self.assert_raises(UnknownCrate, "exchange", name, "fig")
            self.assert_raises(UnknownCrate, "exchange", "fig", name)
            self.assert_raises(UnknownCrate, "exchange", name, name)
        self.assert_raises(UnknownCrate, "exchange", "fig", "fig")

    def test_keep_as(self):
        for name in ("", "X", "x1", "two words", "ninechars", None, True, 0, "-"):
            self.assert_raises(InvalidName, "keep_as", name)

    def test_fetch(self):
        for name in ("y", "", "X", None, 0, "ninechars", "fig"):
            self.assert_raises(UnknownKept, "fetch", name)

    def test_longest_name(self):
        self.assertIs(busy().keep_as("eightest"), False)


class UndoTest(unittest.TestCase):
    OPERATIONS = [("look", 0), ("put", "plum", 1), ("exchange", "fig", "plum"), ("keep_as", "x"), ("shut",),
                  ("put", "fig", 0), ("keep_as", "x"), ("look", 1), ("keep_as", "y"), ("fetch", "x"), ("shut",)]

    def test_all_kinds(self):
        live = Live(STORE, LAYOUT)
        told = [told_by(live)]
        for operation in self.OPERATIONS:
            call(live, operation)
            told.append(told_by(live))
        for at in range(len(self.OPERATIONS), 0, -1):
            self.assertEqual(told_by(live), told[at])
            self.assertIs(live.undo(), True)
        self.assertEqual(told_by(live), told[0])
        self.assertIs(live.undo(), False)
        for at in range(len(self.OPERATIONS)):
            self.assertEqual(told_by(live), told[at])
            self.assertIs(live.redo(), True)
        self.assertEqual(told_by(live), told[-1])
        self.assertIs(live.redo(), False)
        self.assertEqual(told_by(live), told[-1])

    def test_none(self):
        live = Live(STORE, LAYOUT)
        self.assertIs(live.undo(), False)
        self.assertIs(live.redo(), False)
        self.assertEqual(told_by(live), (LAYOUT, 0, [], [], []))

    def test_operation_behind_an_undo(self):
        live = Live(STORE, LAYOUT)
        live.apply_all([("look", 0), ("look", 1)])
        live.undo()
        live.shut()
        self.assertIs(live.redo(), False)
        self.assertEqual(live.history, [("look", 0), ("shut",)])

    def test_failed_operation_behind_an_undo(self):
        live = Live(STORE, LAYOUT)
        live.look(0)
        live.undo()
        with self.assertRaises(UnknownDoor):
            live.look(2)
        self.assertIs(live.redo(), True)
        self.assertEqual(live.history, [("look", 0)])

    def test_redo_behind_redo_and_undo(self):
        live = Live(STORE, LAYOUT)
        live.apply_all([("look", 0), ("put", "plum", 1), ("look", 1)])
        self.assertEqual([live.undo(), live.undo(), live.undo(), live.undo()], [True, True, True, False])
        self.assertEqual([live.redo(), live.redo()], [True, True])
        self.assertEqual(live.history, [("look", 0), ("put", "plum", 1)])
        self.assertEqual([live.undo(), live.redo(), live.redo(), live.redo()], [True, True, True, False])
        self.assertEqual(live.history, [("look", 0), ("put", "plum", 1), ("look", 1)])


class ApplyAllTest(unittest.TestCase):
    def test_results(self):
        live = Live(STORE, LAYOUT)
        told = live.apply_all([("look", 1), ("put", "plum", 1), ("exchange", "plum", "fig"), ("undo",), ("redo",),
                               ("redo",), ("shut",), ("keep_as", "x"), ("undo",), ("undo",)])
        self.assertEqual(told, [("fig",), 0, True, True, True, False, 16, False, True, True])
        self.assertEqual(live.history, [("look", 1), ("put", "plum", 1), ("exchange", "plum", "fig")])
        self.assertEqual([live.redo(), live.redo(), live.redo()], [True, True, False])

    def test_empty(self):
        live = busy()
        before = all_told(live)
        self.assertEqual(live.apply_all([]), [])
        self.assertEqual(all_told(live), before)

    def test_undoing_reaches_ahead_of_the_list(self):
        live = Live(STORE, LAYOUT)
        live.look(0)
        self.assertEqual(live.apply_all([("look", 1), ("undo",), ("undo",), ("undo",)]), [("fig",), True, True, False])
        self.assertEqual(live.history, [])
        self.assertEqual(live.apply_all([("redo",), ("redo",), ("redo",)]), [True, True, False])
        self.assertEqual(live.history, [("look", 0), ("look", 1)])

    def test_one_undo_takes_back_one_operation(self):
        live = Live(STORE, LAYOUT)
        live.apply_all([("look", 0), ("look", 1)])
        live.undo()
        self.assertEqual((live.history, live.warmth_now), ([("look", 0)], 5))

    def test_no_operations(self):
        for apply in (lambda live, some: live.apply_all(some), lambda live, some: live.tried_out(some, True),
                      lambda live, some: live.tried_out(some, False)):
            for wrong in NO_OPERATIONS:
                for ahead in ([], [("look", 0)], [("undo",), ("redo",)], [("look", 9), ("put", "jam", 0)]):
                    live = busy()
                    before = all_told(live)
                    with self.subTest(wrong=wrong), self.assertRaises(InvalidOperation) as caught:
                        apply(live, ahead + [wrong, ("look", 9), ()])
                    self.assertEqual(caught.exception.index, len(ahead))
                    self.assertEqual(all_told(live), before)

    def test_error_in_the_middle(self):
        for operation, error in ((("look", 2), UnknownDoor), (("put", "jam", 0), UnknownCrate),
                                 (("put", "fig", 3), UnknownPlace), (("put", "fig", 2), TakenPlace),
                                 (("exchange", "fig", "fig"), UnknownCrate), (("keep_as", "X"), InvalidName),
                                 (("fetch", "y"), UnknownKept)):
            for ahead in ([], [("look", 0)], [("undo",), ("undo",)], [("redo",)], [("undo",), ("shut",)],
                          [("keep_as", "x"), ("undo",), ("undo",), ("undo",)]):
                live = busy()
                before = all_told(live)
                with self.subTest(operation=operation, ahead=ahead), self.assertRaises(error):
                    live.apply_all(ahead + [operation, ("shut",)])
                self.assertEqual(all_told(live), before)

    def test_handed_in_list(self):
        live = Live(STORE, LAYOUT)
        operations = [("look", 0), ("keep_as", "x")]
        told = live.apply_all(operations)
        self.assertEqual(operations, [("look", 0), ("keep_as", "x")])
        operations.clear()
        told.clear()
        self.assertEqual(live.history, [("look", 0), ("keep_as", "x")])


class ReplayTest(unittest.TestCase):
    def test_history(self):
        live = busy()
        again = Live.replay(STORE, LAYOUT, live.history)
        self.assertIsInstance(again, Live)
        self.assertEqual(told_by(again), told_by(live))
        self.assertIs(again.redo(), False)
        again.shut()
        self.assertNotEqual(told_by(again), told_by(live))

    def test_undo_and_redo(self):
        live = Live.replay(STORE, LAYOUT, [("look", 0), ("look", 1), ("undo",), ("undo",), ("redo",)])
        self.assertEqual(live.history, [("look", 0)])
        self.assertEqual([live.redo(), live.redo()], [True, False])
        self.assertEqual(told_by(Live.replay(STORE, LAYOUT, [])), told_by(Live(STORE, LAYOUT)))

    def test_errors(self):
        with self.assertRaises(InvalidLayout):
            Live.replay(STORE, ("fig", None, None), [("look",)])
        for wrong in NO_OPERATIONS:
            with self.subTest(wrong=wrong), self.assertRaises(InvalidOperation) as caught:
                Live.replay(STORE, LAYOUT, [("look", 9), wrong])
            self.assertEqual(caught.exception.index, 1)
        for operation, error in ((("look", 2), UnknownDoor), (("put", "jam", 0), UnknownCrate),
                                 (("put", "fig", 3), UnknownPlace), (("put", "fig", 0), TakenPlace),
                                 (("keep_as", ""), InvalidName), (("fetch", "x"), UnknownKept)):
            with self.subTest(operation=operation), self.assertRaises(error):
                Live.replay(STORE, LAYOUT, [("look", 0), operation])


class TrialTest(unittest.TestCase):
    def setUp(self):
        self.live = busy()
        self.before = all_told(self.live)

    def use(self):
        self.live.undo()
        self.live.apply_all([("shut",), ("keep_as", "z"), ("look", 1)])

    def assert_used(self):
        history = [("look", 1), ("shut",), ("shut",), ("keep_as", "z"), ("look", 1)]
        self.assertEqual(self.live.history, history)
        self.assertEqual(self.live.kept_under, ["z"])
        self.assertIs(self.live.redo(), False)

    def test_without_hold(self):
        self.live = Live(STORE, LAYOUT)
        with Trial(self.live) as trial:
            self.assertIsInstance(trial, Trial)
            self.live.look(0)
            self.assertEqual(self.live.warmth_now, 5)
        self.assertEqual(told_by(self.live), (LAYOUT, 0, [], [], []))
        self.assertEqual([self.live.undo(), self.live.redo()], [False, False])

    def test_undo_and_redo_behind_a_block(self):
        with Trial(self.live):
            self.live.undo()
            self.use()
        self.assertEqual(all_told(self.live), self.before)
        with Trial(self.live):
            while self.live.undo():
                pass
        self.assertEqual(all_told(self.live), self.before)
        with Trial(self.live):
            while self.live.redo():
                pass
        self.assertEqual(all_told(self.live), self.before)

    def test_hold(self):
        self.live.undo()
        with Trial(self.live) as trial:
            self.use()
            trial.hold()
        self.assert_used()

    def test_hold_ahead_of_what_is_done(self):
        self.live.undo()
        with Trial(self.live) as trial:
            trial.hold()
            trial.hold()
            self.use()
        self.assert_used()

    def test_error_that_leaves_the_block(self):
        for error in (KeyError, StoreError, RuntimeError):
            with self.assertRaises(error), Trial(self.live):
                self.use()
                raise error("told")
            self.assertEqual(all_told(self.live), self.before)
        with self.assertRaises(UnknownDoor), Trial(self.live):
            self.use()
            self.live.look(2)
        self.assertEqual(all_told(self.live), self.before)

    def test_error_behind_hold(self):
        self.live.undo()
        with self.assertRaises(KeyError), Trial(self.live) as trial:
            trial.hold()
            self.use()
            raise KeyError("told")
        self.assert_used()

    def test_error_caught_in_the_block(self):
        with Trial(self.live) as trial:
            with self.assertRaises(UnknownDoor):
                self.live.look(2)
            self.live.look(1)
            trial.hold()
        self.assertEqual(self.live.history[-1], ("look", 1))

    def test_one_block_in_another(self):
        for outer, inner in ((False, False), (False, True), (True, False), (True, True)):
            live = Live(STORE, LAYOUT)
            live.look(0)
            with Trial(live) as one:
                live.look(1)
                with Trial(live) as other:
                    live.undo()
                    live.shut()
                    if inner:
                        other.hold()
                behind = [("look", 0), ("shut",)] if inner else [("look", 0), ("look", 1)]
                self.assertEqual(live.history, behind)
                if outer:
                    one.hold()
            self.assertEqual(live.history, behind if outer else [("look", 0)])

    def test_trial_used_twice(self):
        trial = Trial(self.live)
        trial.hold()
        with trial:
            self.use()
        self.assertEqual(all_told(self.live), self.before)
        with trial:
            self.live.look(0)
            trial.hold()
        self.assertEqual(self.live.history[-1], ("look", 0))
        before = all_told(self.live)
        with trial:
            self.live.look(1)
        self.assertEqual(all_told(self.live), before)

    def test_begins_with_the_block(self):
        trial = Trial(self.live)
        self.live.look(0)
        before = all_told(self.live)
        with trial:
            self.use()
        self.assertEqual(all_told(self.live), before)


class TriedOutTest(unittest.TestCase):
    OPERATIONS = [("undo",), ("look", 1), ("keep_as", "z"), ("exchange", "fig", "plum"), ("shut",), ("redo",)]

    def test_keep(self):
        live, other = busy(), busy()
        self.assertEqual(live.tried_out(self.OPERATIONS, True), other.apply_all(self.OPERATIONS))
        self.assertEqual(all_told(live), all_told(other))

    def test_keep_not(self):
        live, other = busy(), busy()
        before = all_told(live)
        self.assertEqual(live.tried_out(self.OPERATIONS, False), other.apply_all(self.OPERATIONS))
        self.assertEqual(all_told(live), before)

    def test_failing(self):
        for keep in (True, False):
            live = busy()
            before = all_told(live)
            for operations, error in (([("look", 0), ("put", "fig", 2)], TakenPlace),
                                      ([("undo",), ("fetch", "y")], UnknownKept), ([("redo",), ("look", 2)], UnknownDoor)):
                with self.assertRaises(error):
                    live.tried_out(operations, keep)
                self.assertEqual(all_told(live), before)

    def test_plain(self):
        live, operations = busy(), list(self.OPERATIONS)
        told = live.tried_out(operations, False)
        self.assertEqual(operations, self.OPERATIONS)
        expected = list(told)
        told.clear()
        self.assertEqual(live.tried_out(operations, False), expected)


if __name__ == "__main__":
    unittest.main()
