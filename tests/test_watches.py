"""What watched runs need: rows, and where they lead in the rules, deed by deed [2, 18, 19, 20, 28, 30]."""

import copy
import random
import unittest

from helpers import barring, deeds, door, lease, random_log, rows_in
from test_breaches import BREACHES
from usewarden.laid import laid_rules
from usewarden.watches import Watch, all_begin_tie, broken_or_gone_on, row_of, watch_of, watches_of


class Rows(unittest.TestCase):
    def test_rows_of_handles_and_of_ties(self):
        log = deeds("0 open", "1 open", "0 1", "1 x", "0 y", "1 0", "0 1", "2 z", "0 end", "1 end")
        self.assertEqual(row_of(log, (0,)), ["open", "y", "end"])
        self.assertEqual(row_of(log, (1,)), ["open", "x", "end"])
        self.assertEqual(row_of(log, (3,)), [])
        self.assertEqual(row_of(log[3:], (0, 1)), ["2.x", "1.y", "1.end", "2.end"])
        self.assertEqual(row_of(log[6:], (1, 0)), ["2.end", "1.end"])
        self.assertEqual(row_of([], (0, 1)), [])

    def test_rows_by_chance(self):
        chance = random.Random(1801)
        for turn in range(300):
            log = random_log(chance, chance.randrange(1, 5), ["a", "b", "open"], chance.randrange(20))
            for handles, texts in rows_in(log, 1):
                self.assertEqual(row_of(log, tuple(handles)), [text for at, text in texts])
            places = [at for at, entry in enumerate(log) if len(entry) == 3]
            for place, (handles, texts) in zip(places, rows_in(log, 2), strict=True):
                self.assertEqual(row_of(log[place + 1:], tuple(handles)), [text for at, text in texts])


class Watches(unittest.TestCase):
    def test_what_would_be_broken_is_told_ahead_of_the_deed(self):
        for rules, log, breach in BREACHES:
            if breach is None:
                continue
            watches = watches_of(rules)
            for at, entry in enumerate(log[:breach[0]]):
                if len(entry) == 3:
                    all_begin_tie(watches, entry[1], entry[2], at + 1)
                else:
                    self.assertIsNone(broken_or_gone_on(watches, None, entry[1], entry[2]))
            entry = log[breach[0]]
            before = [copy.deepcopy(watch.starts) for watch in watches]
            broken = broken_or_gone_on(watches, None, entry[1], entry[2])
            # A deed that isn't done leaves all as it was: asked again it is the same.
            self.assertEqual([watch.starts for watch in watches], before)
            self.assertEqual(broken_or_gone_on(watches, None, entry[1], entry[2]), broken)
            self.assertEqual((broken[0], list(broken[2])), breach[1:3])

    def test_one_watch_by_itself(self):
        watch = watch_of(4, ("lease", lease()), None)
        self.assertEqual(watch.broken_by(1, "read"), [])
        watch.begin_tie(0, 1, 3)
        watch.begin_tie(2, 1, 5)
        self.assertEqual(watch.broken_by(1, "read"), [((4, "lease"), 3, (0, 1)), ((4, "lease"), 5, (2, 1))])
        self.assertEqual(watch.broken_by(0, "open"), [])
        watch.go_on(0, "open")
        self.assertEqual(watch.broken_by(1, "read"), [((4, "lease"), 5, (2, 1))])
        watch.go_on(2, "open")
        self.assertEqual(watch.broken_by(1, "read"), [])

    def test_a_rule_of_one_side_has_no_ties(self):
        watch = watch_of(0, ("door", door()), None)
        watch.begin_tie(0, 1, 3)
        self.assertEqual((watch.starts, watch.ties), ({}, {}))
        self.assertEqual(watch.broken_by(0, "open"), [])
        watch.go_on(0, "open")
        self.assertEqual(watch.starts, {(0,): {1: 0}})
        self.assertEqual(watch.broken_by(1, "read"), [((0, "door"), 0, (1,))])

    def test_rows_without_a_word_for_the_deed_stay_where_they_are(self):
        watch = watch_of(0, ("lease", lease()), None)
        watch.begin_tie(0, 1, 3)
        watch.begin_tie(1, 2, 4)
        for handle, word in ((0, "look"), (0, "read"), (5, "open")):
            self.assertEqual(watch.rows_with(handle, word), [])
            watch.go_on(handle, word)
        self.assertEqual(watch.starts, {(0, 1): {0: 3}, (1, 2): {0: 4}})
        self.assertEqual(watch.rows_with(1, "open"), [((1, 2), "1.open")])
        watch.go_on(1, "open")
        self.assertEqual(watch.starts, {(0, 1): {0: 3}, (1, 2): {1: 4}})

    def test_rows_of_rules_laid_together_are_blamed_apart(self):
        # Two ties of the same handles in unlike rooms: one deed breaks unlike rules by them.
        rule, blames = laid_rules([("a", (2, ["1.x", "1.y"], [[1, 0], [1, None]])), ("b", barring(2, "1.y"))])
        marks = [(3, "a"), (1, "b")]
        watch = Watch(rule, [[None if blame is None else marks[blame] for blame in blamed] for blamed in blames], None)
        watch.begin_tie(0, 1, 2)
        watch.go_on(0, "x")
        watch.begin_tie(0, 1, 4)
        self.assertEqual(sorted(watch.broken_by(0, "y")), [((1, "b"), 4, (0, 1)), ((3, "a"), 2, (0, 1))])
        self.assertEqual(broken_or_gone_on([watch], None, 0, "y"), ("b", 4, (0, 1)))

    def test_marks_of_a_column(self):
        named = ("once", (1, ["x"], [[1], [None]]))
        for marks, rooms in (("look", 1), ("step", 1), ("none", 0)):
            watch = watch_of(0, named, ["none", marks])
            self.assertEqual([watch.mark_at(at) for at in (0, 1)], ["none", marks])
            self.assertIsNone(broken_or_gone_on([watch], 0, 7, "x"))
            self.assertEqual(watch.starts_of((7,)), {0: 0})
            self.assertIsNone(broken_or_gone_on([watch], 1, 7, "x"))
            self.assertEqual(watch.starts_of((7,)), {rooms: 0})
        self.assertEqual(broken_or_gone_on([watch_of(0, ("x", barring(1, "x")), ["look"])], 0, 7, "x"), ("x", 0, (7,)))


if __name__ == "__main__":
    unittest.main()
