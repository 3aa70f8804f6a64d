"""Points 5, 6 and 7: logs, where crates can lie, and sightings that are wrong."""

import copy
import itertools
import random
import unittest
from fractions import Fraction

from coldcrates.errors import InvalidLog, NoLayout, UnknownCrate, UnknownDoor
from coldcrates.logs import could_lie, fewest_wrong, first, first_wrong, now, share, stories, surely_lies
from coldcrates.stores import Store, layouts
from tests.oracle import all_stories, tried_fewest_wrong, tried_first_wrong

SMALL = Store(((5, 2), (3, 1)), ("jam", "kiwi"))
FULL = Store(((5, 2), (3, 1)), ("a", "b", "c"))
ONE = Store(((5, 2), (3, 1)), ("a",))
PAIR = Store(((4, 2),), ("a", "b"))

WRONG_ITEMS = [
    ("open", 2, (None,)), ("open", -1, ("jam",)), ("open", True, ("jam",)), ("open", "0", ("jam", None)),
    ("open", 0, ("jam",)), ("open", 0, ("jam", None, None)), ("open", 1, ()), ("open", 1, ("jam", None)),
    ("open", 0, ("jam", "plum")), ("open", 0, ("", None)), ("open", 0, ("jam", "??")), ("open", 0, ("-", None)),
    ("open", 0, ("jam", 0)), ("open", 0, ("jam", False)), ("open", 0, ["jam", None]), ("open", 1, "jam"),
    ("open", 1, "?"), ("open", 0, "??"), ("open", 0, None),
    ("open", 0), ("open",), ("open", 0, ("jam", None), 1), ("see", 0, ("jam", None)), ["open", 0, ("jam", None)],
    ("move", "plum"), ("move", "?"), ("near", None), ("swap", "jam", "jam"), ("swap", "jam", "plum"),
    ("shuffle", 2), ("shuffle", -1), ("shuffle", False), ("throw", "jam"), ("move",), (), None, "move",
]


def in_order(store, found):
    return [layout for layout in layouts(store) if layout in found]


def random_log(rng, store, length):
    log = []
    for _ in range(length):
        word = rng.choice(["open", "open", "open", "move", "near", "swap", "shuffle"])
        door = rng.randrange(len(store))
        if word == "open":
            marks = list(store.crates) + [None, "?"]
            log.append((word, door, tuple(rng.choice(marks) for _ in store.places_of(door))))
        elif word == "shuffle":
            log.append((word, door))
        elif word == "swap" and len(store.crates) > 1:
            log.append((word,) + tuple(rng.sample(store.crates, 2)))
        else:
            log.append((rng.choice(["move", "near"]), rng.choice(store.crates)))
    return log


class TriedLogsTest(unittest.TestCase):
    """All functions beside what all stories, written down one by one, tell."""

    def setUp(self):
        rng = random.Random(7)
        stores = [SMALL, FULL, ONE, PAIR, Store(((1, 1), (2, 3)), ("a", "b"))]
        self.logs = [(store, random_log(rng, store, rng.randrange(6))) for _ in range(60) for store in stores]

    def test_now_first_and_stories(self):
        for store, log in self.logs:
            told = all_stories(store, log)
            self.assertEqual(now(store, log), in_order(store, [some[-1] for some in told]), log)
            self.assertEqual(first(store, log), in_order(store, [some[0] for some in told]), log)
            self.assertEqual(stories(store, log), len(set(told)), log)

    def test_where_crates_lie(self):
        for store, log in self.logs:
            found = now(store, log)
            if not found:
                with self.assertRaises(NoLayout):
                    could_lie(store, log)
                with self.assertRaises(NoLayout):
                    surely_lies(store, log)
                continue
            lying = could_lie(store, log)
            self.assertEqual(list(lying), list(store.crates))
            for name, places in lying.items():
                self.assertEqual(places, tuple(sorted({layout.index(name) for layout in found})))
            self.assertEqual(surely_lies(store, log), {n: p[0] for n, p in lying.items() if len(p) == 1})
            for name, door in itertools.product(store.crates, range(len(store))):
                many = sum(layout.index(name) in store.places_of(door) for layout in found)
                fraction = Fraction(many, len(found))
                self.assertEqual(share(store, log, name, door), (fraction.numerator, fraction.denominator))

    def test_what_is_wrong(self):
        kinds = set()
        for store, log in self.logs:
            expected = tried_fewest_wrong(store, log)
            kinds.add(expected if expected is None else len(expected))
            self.assertEqual(fewest_wrong(store, log), expected, log)
            self.assertEqual(first_wrong(store, log), tried_first_wrong(store, log), log)
        self.assertLessEqual({None, 0, 1, 2, 3}, kinds)


class NowTest(unittest.TestCase):
    def test_empty_log(self):
        every = list(layouts(SMALL))
        self.assertEqual((now(SMALL, []), first(SMALL, []), stories(SMALL, [])), (every, every, 6))

    def test_frosted_label_is_no_free_place(self):
        log = [("open", 1, ("?",))]
        expected = [(None, "jam", "kiwi"), (None, "kiwi", "jam"), ("jam", None, "kiwi"), ("kiwi", None, "jam")]
        self.assertEqual((now(SMALL, log), first(SMALL, log), stories(SMALL, log)), (expected, expected, 4))

    def test_free_place(self):
        log = [("open", 1, (None,))]
        self.assertEqual(now(SMALL, log), [("jam", "kiwi", None), ("kiwi", "jam", None)])

    def test_crate_seen(self):
        self.assertEqual(now(SMALL, [("open", 0, ("?", "jam"))]), [("kiwi", "jam", None)])
        self.assertEqual(now(SMALL, [("open", 0, (None, "jam"))]), [(None, "jam", "kiwi")])

    def test_crate_seen_twice_is_never_right(self):
        for seen in (("jam", "jam"), ("kiwi", "kiwi")):
            log = [("open", 0, seen)]
            self.assertEqual((now(SMALL, log), first(SMALL, log), stories(SMALL, log)), ([], [], 0))

    def test_no_layout_left(self):
        log = [("open", 1, ("jam",)), ("open", 1, ("kiwi",))]
        self.assertEqual((now(SMALL, log), first(SMALL, log), stories(SMALL, log)), ([], [], 0))

    def test_deed_that_cannot_be_done(self):
        log = [("move", "a")]
        self.assertEqual((now(FULL, log), first(FULL, log), stories(FULL, log)), ([], [], 0))
        # The crate has no free place beside it in one of the two layouts.
        log = [("open", 1, (None,)), ("near", "jam")]
        self.assertEqual(first(SMALL, log), [("kiwi", "jam", None)])
        self.assertEqual(now(SMALL, log), [("kiwi", None, "jam")])

    def test_several_stories_to_one_layout(self):
        self.assertEqual(stories(PAIR, [("shuffle", 0)]), 4)
        self.assertEqual(now(PAIR, [("shuffle", 0)]), [("a", "b"), ("b", "a")])
        log = [("open", 0, ("a", "b")), ("shuffle", 0), ("shuffle", 0), ("open", 0, ("a", "b"))]
        self.assertEqual((stories(PAIR, log), now(PAIR, log), first(PAIR, log)), (2, [("a", "b")], [("a", "b")]))
        self.assertEqual(stories(PAIR, [("shuffle", 0)] * 5), 64)

    def test_later_sighting_tells_of_the_beginning(self):
        log = [("swap", "jam", "kiwi"), ("open", 1, ("jam",))]
        self.assertEqual(first(SMALL, log), [(None, "jam", "kiwi"), ("jam", None, "kiwi")])
        self.assertEqual(now(SMALL, log), [(None, "kiwi", "jam"), ("kiwi", None, "jam")])

    def test_large_store(self):
        store = Store(((1, 4), (2, 2)), ("a", "b", "c", "d", "e"))
        log = [("open", 0, ("a", "b", "c", "d")), ("shuffle", 0), ("move", "e"), ("shuffle", 0)]
        self.assertEqual((len(now(store, log)), first(store, log), stories(store, log)),
                         (48, [("a", "b", "c", "d", None, "e"), ("a", "b", "c", "d", "e", None)], 1152))


CALLS = [
    now, first, stories, could_lie, surely_lies, first_wrong, fewest_wrong,
    lambda store, log: share(store, log, "jam", 0), lambda store, log: share(store, log, "plum", 9),
]


class InvalidLogTest(unittest.TestCase):
    def test_index(self):
        heads = [[], [("open", 1, ("jam",))], [("move", "jam"), ("open", 1, ("?",)), ("shuffle", 0)],
                 [("open", 0, ("jam", "jam"))]]
        for entry in WRONG_ITEMS:
            for head in heads:
                for call in CALLS:
                    with self.subTest(entry=entry, head=head), self.assertRaises(InvalidLog) as caught:
                        call(SMALL, head + [entry, ("throw", "jam"), ("move", "jam")])
                    self.assertEqual(caught.exception.index, len(head))


class WhereTest(unittest.TestCase):
    def test_could_lie(self):
        self.assertEqual(could_lie(SMALL, []), {"jam": (0, 1, 2), "kiwi": (0, 1, 2)})
        self.assertEqual(could_lie(SMALL, [("open", 1, ("kiwi",))]), {"jam": (0, 1), "kiwi": (2,)})

    def test_surely_lies(self):
        self.assertEqual(surely_lies(SMALL, []), {})
        self.assertEqual(surely_lies(SMALL, [("open", 1, ("kiwi",))]), {"kiwi": 2})
        self.assertEqual(surely_lies(SMALL, [("open", 0, ("kiwi", None))]), {"jam": 2, "kiwi": 0})

    def test_keys_ascend(self):
        store = Store(((1, 4), (2, 2)), ("a", "b", "c", "d", "e"))
        log = [("open", 0, ("d", "b", "e", None)), ("open", 1, ("c", "?"))]
        self.assertEqual(list(could_lie(store, log)), ["a", "b", "c", "d", "e"])
        self.assertEqual(list(surely_lies(store, log).items()), [("a", 5), ("b", 1), ("c", 4), ("d", 0), ("e", 2)])
        self.assertEqual(list(surely_lies(store, log[:1])), ["b", "d", "e"])

    def test_share(self):
        self.assertEqual(share(SMALL, [], "jam", 0), (2, 3))
        self.assertEqual(share(SMALL, [], "jam", 1), (1, 3))
        self.assertEqual(share(SMALL, [("open", 1, ("kiwi",))], "jam", 0), (1, 1))
        self.assertEqual(share(SMALL, [("open", 1, ("kiwi",))], "jam", 1), (0, 1))

    def test_share_counts_each_layout_once(self):
        # Six of the eight stories, but four of the six layouts, have jam behind door 0.
        log = [("near", "jam"), ("shuffle", 0)]
        self.assertEqual((stories(SMALL, log), len(now(SMALL, log))), (8, 6))
        self.assertEqual(share(SMALL, log, "jam", 0), (2, 3))

    def test_order_of_errors(self):
        none = [("open", 0, ("jam", "jam"))]
        for call in (could_lie, surely_lies):
            with self.assertRaises(NoLayout):
                call(SMALL, none)
            with self.assertRaises(InvalidLog):
                call(SMALL, none + [("throw", "jam")])
        with self.assertRaises(InvalidLog):
            share(SMALL, none + [None], "plum", 2)
        for name in ("plum", "?", "", None):
            with self.assertRaises(UnknownCrate):
                share(SMALL, none, name, 2)
        for door in (2, -1, True, "0", None):
            with self.assertRaises(UnknownDoor):
                share(SMALL, none, "jam", door)
        with self.assertRaises(NoLayout):
            share(SMALL, none, "jam", 1)


class WrongTest(unittest.TestCase):
    def test_nothing_wrong(self):
        for log in ([], [("open", 1, ("jam",))], [("move", "jam"), ("open", 1, ("?",)), ("shuffle", 0)]):
            self.assertIsNone(first_wrong(SMALL, log))
            self.assertEqual(fewest_wrong(SMALL, log), ())

    def test_one_wrong(self):
        log = [("open", 1, ("jam",)), ("open", 0, ("kiwi", None)), ("open", 1, ("kiwi",)), ("open", 1, ("jam",))]
        self.assertEqual(first_wrong(SMALL, log), 3)
        self.assertEqual(fewest_wrong(SMALL, log), (2,))

    def test_several_wrong(self):
        log = [("open", 1, ("jam",)), ("shuffle", 0), ("open", 1, ("kiwi",)), ("open", 1, ("?",)), ("open", 1, (None,)),
               ("open", 1, ("kiwi",))]
        self.assertEqual(first_wrong(SMALL, log), 3)
        self.assertEqual(fewest_wrong(SMALL, log), (0, 4))

    def test_crate_seen_twice_is_always_wrong(self):
        log = [("move", "jam"), ("open", 0, ("jam", "jam")), ("open", 0, ("kiwi", "kiwi")), ("open", 1, ("?",))]
        self.assertEqual(first_wrong(SMALL, log), 2)
        self.assertEqual(fewest_wrong(SMALL, log), (1, 2))

    def test_first_of_several_shortest(self):
        log = [("open", 1, ("jam",)), ("open", 1, ("kiwi",))]
        self.assertEqual(fewest_wrong(SMALL, log), (0,))
        log = [("open", 1, ("jam",)), ("open", 1, ("kiwi",)), ("open", 1, ("jam",)), ("open", 1, ("kiwi",))]
        self.assertEqual(fewest_wrong(SMALL, log), (0, 2))
        # A longer tuple that is less in tuple order does not count.
        log = [("open", 1, ("jam",)), ("open", 1, ("jam",)), ("open", 1, ("kiwi",))]
        self.assertEqual(fewest_wrong(SMALL, log), (2,))

    def test_deed_is_wrong(self):
        log = [("open", 1, ("a",)), ("open", 1, ("b",)), ("move", "a")]
        self.assertEqual(first_wrong(FULL, log), 2)
        self.assertIsNone(fewest_wrong(FULL, log))
        self.assertEqual(first_wrong(FULL, [("swap", "a", "b"), ("near", "a"), ("shuffle", 0)]), 2)
        self.assertIsNone(fewest_wrong(FULL, [("near", "a")]))

    def test_deed_asks_for_a_wrong_sighting(self):
        # With jam and kiwi as they were seen, jam has no free place beside it.
        log = [("open", 0, ("jam", "kiwi")), ("near", "jam"), ("open", 1, (None,))]
        self.assertEqual(first_wrong(SMALL, log), 2)
        self.assertEqual(fewest_wrong(SMALL, log), (0,))

    def test_many_sightings(self):
        log = [("open", 1, ("jam",)), ("open", 1, ("kiwi",))] * 20 + [("open", 1, ("kiwi",))]
        self.assertEqual(fewest_wrong(SMALL, log), tuple(range(0, 40, 2)))


class UnchangedTest(unittest.TestCase):
    def test_arguments_stay_and_results_are_new(self):
        log = [("open", 1, ("?",)), ("shuffle", 0), ("swap", "jam", "kiwi"), ("open", 1, ("jam",))]
        kept = copy.deepcopy(log)
        for call in CALLS[:-1]:
            result = call(SMALL, log)
            expected = copy.deepcopy(result)
            if isinstance(result, (list, dict)):
                result.clear()
            self.assertEqual(call(SMALL, log), expected)
            self.assertEqual(log, kept)
        self.assertEqual(SMALL, Store(((5, 2), (3, 1)), ("jam", "kiwi")))

    def test_an_error_changes_nothing(self):
        log = [("move", "jam"), ("throw", "jam")]
        for call in CALLS:
            with self.assertRaises(InvalidLog):
                call(SMALL, log)
        self.assertEqual(log, [("move", "jam"), ("throw", "jam")])


if __name__ == "__main__":
    unittest.main()
