"""What watched runs need: rows, and where they lead in the rules, deed by deed [2, 18, 19, 20]."""

import copy
import random
import unittest

from helpers import deeds, door, lease, random_log, rows_in
from test_breaches import BREACHES
from usewarden.watches import Watch, all_begin_tie, broken_or_gone_on, earliest_broken, row_of, watches_of


class Rows(unittest.TestCase):
    def test_rows_of_handles_and_of_ties(self):
        log = deeds("0 open", "1 open", "0 1", "1 x", "0 y", "1 0", "0 1", "2 z", "0 end", "1 end")
        self.assertEqual(row_of(log, (0,)), ["open", "y", "end"])
        self.assertEqual(row_of(log, (1,)), ["open", "x", "end"])
        self.assertEqual(row_of(log, (3,)), [])
        self.assertEqual(row_of(log[3:], (0, 1)), ["2.x", "1.y", "1.end", "2.end"])
        self.assertEqual(row_of(log[6:], (1, 0)), ["2.end", "1.end"])
        self.assertEqual(row_of([], (0, 1)), [])

    def test_rows_by_chance(self):
        chance = random.Random(1801)
        for turn in range(300):
            log = random_log(chance, chance.randrange(1, 5), ["a", "b", "open"], chance.randrange(20))
            for handles, texts in rows_in(log, 1):
                self.assertEqual(row_of(log, tuple(handles)), [text for at, text in texts])
            places = [at for at, entry in enumerate(log) if len(entry) == 3]
            for place, (handles, texts) in zip(places, rows_in(log, 2), strict=True):
                self.assertEqual(row_of(log[place + 1:], tuple(handles)), [text for at, text in texts])


class Watches(unittest.TestCase):
    def test_what_would_be_broken_is_told_ahead_of_the_deed(self):
        for rules, log, breach in BREACHES:
            if breach is None:
                continue
            watches = watches_of(rules)
            for at, entry in enumerate(log[:breach[0]]):
                if len(entry) == 3:
                    all_begin_tie(watches, entry[1], entry[2], at + 1)
                else:
                    self.assertIsNone(broken_or_gone_on(watches, entry[1], entry[2]))
            entry = log[breach[0]]
            before = [copy.deepcopy(watch.starts) for watch in watches]
            broken = broken_or_gone_on(watches, entry[1], entry[2])
            # A deed that isn't done leaves all as it was: asked again it is the same.
            self.assertEqual([watch.starts for watch in watches], before)
            self.assertEqual(broken_or_gone_on(watches, entry[1], entry[2]), broken)
            self.assertEqual((broken[0], list(broken[2])), breach[1:3])

    def test_one_watch_by_itself(self):
        watch = Watch("lease", lease())
        self.assertEqual(watch.led_by(1, "read"), {})
        watch.begin_tie(0, 1, 3)
        watch.begin_tie(2, 1, 5)
        led = watch.led_by(1, "read")
        self.assertEqual(led, {(0, 1): {None: 3}, (2, 1): {None: 5}})
        self.assertEqual(earliest_broken(led), (3, (0, 1)))
        led = watch.led_by(0, "open")
        self.assertIsNone(earliest_broken(led))
        watch.go_on(led)
        self.assertEqual(earliest_broken(watch.led_by(1, "read")), (5, (2, 1)))
        watch.go_on(watch.led_by(2, "open"))
        self.assertIsNone(earliest_broken(watch.led_by(1, "read")))

    def test_a_rule_of_one_side_has_no_ties(self):
        watch = Watch("door", door())
        watch.begin_tie(0, 1, 3)
        self.assertEqual((watch.starts, watch.ties), ({}, {}))
        self.assertEqual(watch.led_by(0, "open"), {(0,): {1: 0}})
        self.assertEqual(earliest_broken(watch.led_by(1, "read")), (0, (1,)))

    def test_rows_without_a_word_for_the_deed_stay_where_they_are(self):
        watch = Watch("lease", lease())
        watch.begin_tie(0, 1, 3)
        watch.begin_tie(1, 2, 4)
        self.assertEqual(watch.led_by(0, "look"), {})
        self.assertEqual(watch.led_by(0, "read"), {})
        self.assertEqual(watch.led_by(1, "open"), {(1, 2): {1: 4}})


if __name__ == "__main__":
    unittest.main()
