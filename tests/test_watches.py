"""What watched runs need: rows, and where they lead in the rules, deed by deed [2, 18, 19, 20]."""

import copy
import random
import unittest

from helpers import barring, breach_by_rows, door, free, lease, random_log, random_rule, ring_rule, rows_in, sixty_lines
from usewarden.plainruns import run_plain
from usewarden.rules import room_after
from usewarden.watches import Watch, all_begin_tie, broken_or_gone_on, earliest_broken, row_of, watches_of


def breach_by_watches(rules, log):
    """The breach that the watches find, going through the log."""
    watches = watches_of(rules)
    for at, entry in enumerate(log):
        if len(entry) == 3:
            all_begin_tie(watches, entry[1], entry[2], at + 1)
            continue
        broken = broken_or_gone_on(watches, entry[1], entry[2])
        if broken is not None:
            name, start, handles = broken
            return at, name, list(handles), row_of(log[start:at + 1], handles)
    return None


def deeds(*texts):
    """A log: each text a handle and a word, or two handles that are tied."""
    log = []
    for at, text in enumerate(texts):
        one, other = text.split(" ")
        log.append((at, int(one), int(other)) if other.isdigit() else (at, int(one), other, 0))
    return log


# A tie may be opened on its first side twice, but not thrice.
TWICE = (2, ["1.open"], [[1], [2], [None]])
NO_END = ("noend", barring(1, "end"))

# Each a list of rules, a log, and the breach.
BREACHES = [
    ([], [], None),
    ([], deeds("0 open", "0 1", "1 end"), None),
    ([("door", door())], [], None),
    ([("door", door())], deeds("0 open", "0 read", "0 close", "0 open", "0 end"), None),
    ([("door", door())], deeds("0 read"), (0, "door", [0], ["read"])),
    ([("door", door())], deeds("0 open", "1 open", "0 close", "0 read"), (3, "door", [0], ["open", "close", "read"])),
    # Each handle has a row of its own; other words stand in it, too.
    ([("door", door())], deeds("0 open", "1 open", "0 look", "1 look", "0 close", "1 read", "0 close"), (
        6, "door", [0], ["open", "look", "close", "close"])),
    # Handles of a log may have any number, and need not be opened.
    ([("door", door())], deeds("7 look", "70 look", "70 open", "7 close"), (3, "door", [7], ["look", "close"])),
    # Of two rules broken with one deed the first of the list; of two deeds the first.
    ([("one", barring(1, "a")), ("two", barring(1, "a"))], deeds("0 a"), (0, "one", [0], ["a"])),
    ([("one", barring(1, "a")), ("two", barring(1, "b"))], deeds("0 b", "0 a"), (0, "two", [0], ["b"])),
    ([("tied", barring(2, "1.a")), ("one", barring(1, "a"))], deeds("0 1", "0 a"), (1, "tied", [0, 1], ["1.a"])),
    ([("one", barring(1, "a")), ("tied", barring(2, "1.a"))], deeds("0 1", "0 a"), (1, "one", [0], ["a"])),
    # A tie's row begins behind it, and is of both handles.
    ([("lease", lease())], deeds("0 open", "1 open", "1 read", "0 1", "1 read"), (4, "lease", [0, 1], ["2.read"])),
    ([("lease", lease())], deeds("0 1", "0 open", "2 read", "1 read", "0 close", "1 read"), (
        5, "lease", [0, 1], ["1.open", "2.read", "1.close", "2.read"])),
    ([("lease", lease())], deeds("0 1", "0 open", "0 read", "1 open", "1 read", "0 end", "1 end"), None),
    # The order in which two are tied counts.
    ([("lease", lease())], deeds("1 0", "0 open", "1 open", "0 read", "1 read"), None),
    ([("lease", lease())], deeds("0 1", "1 0", "0 open", "1 open", "1 close", "0 read"), (
        5, "lease", [1, 0], ["2.open", "1.open", "1.close", "2.read"])),
    # Two ties of the same handles are two, and the earliest one that breaks it is told.
    ([("twice", TWICE)], deeds("0 1", "0 open", "0 1", "0 open", "0 1", "0 open"), (
        5, "twice", [0, 1], ["1.open", "1.open", "1.open"])),
    ([("lease", lease())], deeds("0 1", "0 1", "1 read"), (2, "lease", [0, 1], ["2.read"])),
    ([("lease", lease())], deeds("0 1", "0 open", "0 1", "1 read"), (3, "lease", [0, 1], ["2.read"])),
    ([("lease", lease())], deeds("0 1", "0 open", "0 1", "1 look", "0 close", "0 1", "1 read"), (
        6, "lease", [0, 1], ["1.open", "2.look", "1.close", "2.read"])),
    ([("lease", lease())], deeds("2 1", "0 1", "1 look", "1 read"), (3, "lease", [2, 1], ["2.look", "2.read"])),
    ([("lease", lease())], deeds("0 1", "2 1", "0 open", "1 read"), (3, "lease", [2, 1], ["2.read"])),
    # The ends are deeds like others.
    ([NO_END], deeds("0 open", "1 open", "0 end"), (2, "noend", [0], ["open", "end"])),
    ([("free", free(1)), ("freed", free(2)), NO_END], deeds("0 1", "1 end"), (1, "noend", [1], ["end"])),
]


class Rows(unittest.TestCase):
    def test_rows_of_handles_and_of_ties(self):
        log = deeds("0 open", "1 open", "0 1", "1 x", "0 y", "1 0", "0 1", "2 z", "0 end", "1 end")
        self.assertEqual(row_of(log, (0,)), ["open", "y", "end"])
        self.assertEqual(row_of(log, (1,)), ["open", "x", "end"])
        self.assertEqual(row_of(log, (3,)), [])
        self.assertEqual(row_of(log[3:], (0, 1)), ["2.x", "1.y", "1.end", "2.end"])
        self.assertEqual(row_of(log[6:], (1, 0)), ["2.end", "1.end"])
        self.assertEqual(row_of([], (0, 1)), [])

    def test_rows_by_chance(self):
        chance = random.Random(1801)
        for turn in range(300):
            log = random_log(chance, chance.randrange(1, 5), ["a", "b", "open"], chance.randrange(20))
            for handles, texts in rows_in(log, 1):
                self.assertEqual(row_of(log, tuple(handles)), [text for at, text in texts])
            places = [at for at, entry in enumerate(log) if len(entry) == 3]
            for place, (handles, texts) in zip(places, rows_in(log, 2), strict=True):
                self.assertEqual(row_of(log[place + 1:], tuple(handles)), [text for at, text in texts])


class Watches(unittest.TestCase):
    def test_breaches_that_are_known(self):
        for rules, log, breach in BREACHES:
            self.assertEqual(breach_by_watches(rules, log), breach, (rules, log))
            self.assertEqual(breach_by_rows(rules, log), breach, (rules, log))

    def check(self, rules, log):
        breach = breach_by_rows(rules, log)
        self.assertEqual(breach_by_watches(rules, log), breach, (rules, log))
        return breach is not None

    def test_logs_by_chance(self):
        chance = random.Random(1802)
        found = []
        for turn in range(3000):
            words = ["a", "b", "end"]
            rules = []
            for name in ["p", "q", "r"][:chance.randrange(1, 4)]:
                sides = chance.choice([1, 2, 2])
                texts = words if sides == 1 else [f"{side}.{word}" for side in (1, 2) for word in words]
                chosen = sorted(chance.sample(texts, chance.randrange(1, len(texts) + 1)))
                rule = random_rule(chance, sides, chosen, chance.randrange(1, 5))
                # Fewer breaches, so that rows get longer.
                rooms = [[chance.randrange(len(rule[2])) if way is None and chance.random() < 0.6 else way for way in room]
                         for room in rule[2]]
                rules.append((name, (sides, chosen, rooms)))
            log = random_log(chance, chance.randrange(1, 4), words, chance.randrange(1, 30))
            found.append(self.check(rules, log))
        self.assertGreater(found.count(True), 500)
        self.assertGreater(found.count(False), 200)

    def test_logs_of_a_great_program(self):
        chance = random.Random(1803)
        found = []
        for turn in range(60):
            log = run_plain(sixty_lines(), [chance.choice([-1, 1, 2, 2, 2, 2]) for place in range(40)])
            rules = [
                ("ring", ring_rule(60, "deep", "end", chance.randrange(60))),
                ("tied", ring_rule(chance.randrange(1, 5), "1.loop", "2.end", chance.randrange(1, 3))),
                ("lent", (1, ["back", "end", "lend"], [[None, 0, 1], [0, None, 2], [1, None, 1]])),
            ]
            found.append(self.check(rules, log))
        self.assertEqual(set(found), {True, False})

    def test_what_would_be_broken_is_told_ahead_of_the_deed(self):
        for rules, log, breach in BREACHES:
            if breach is None:
                continue
            watches = watches_of(rules)
            for at, entry in enumerate(log[:breach[0]]):
                if len(entry) == 3:
                    all_begin_tie(watches, entry[1], entry[2], at + 1)
                else:
                    self.assertIsNone(broken_or_gone_on(watches, entry[1], entry[2]))
            entry = log[breach[0]]
            before = [copy.deepcopy(watch.starts) for watch in watches]
            broken = broken_or_gone_on(watches, entry[1], entry[2])
            # A deed that isn't done leaves all as it was: asked again it is the same.
            self.assertEqual([watch.starts for watch in watches], before)
            self.assertEqual(broken_or_gone_on(watches, entry[1], entry[2]), broken)
            self.assertEqual((broken[0], list(broken[2])), breach[1:3])

    def test_one_watch_by_itself(self):
        watch = Watch("lease", lease())
        self.assertEqual(watch.led_by(1, "read"), {})
        watch.begin_tie(0, 1, 3)
        watch.begin_tie(2, 1, 5)
        led = watch.led_by(1, "read")
        self.assertEqual(led, {(0, 1): {None: 3}, (2, 1): {None: 5}})
        self.assertEqual(earliest_broken(led), (3, (0, 1)))
        led = watch.led_by(0, "open")
        self.assertIsNone(earliest_broken(led))
        watch.go_on(led)
        self.assertEqual(earliest_broken(watch.led_by(1, "read")), (5, (2, 1)))
        watch.go_on(watch.led_by(2, "open"))
        self.assertIsNone(earliest_broken(watch.led_by(1, "read")))

    def test_a_rule_of_one_side_has_no_ties(self):
        watch = Watch("door", door())
        watch.begin_tie(0, 1, 3)
        self.assertEqual((watch.starts, watch.ties), ({}, {}))
        self.assertEqual(watch.led_by(0, "open"), {(0,): {1: 0}})
        self.assertEqual(earliest_broken(watch.led_by(1, "read")), (0, (1,)))

    def test_many_ties_of_the_same_handles(self):
        # However many ties there are, the earliest of those in one room stands for the others.
        log = deeds("0 1", "0 open", *["0 1", "0 look", "1 look"] * 20000, "0 close", "1 read")
        breach = breach_by_watches([("twice", TWICE), ("lease", lease())], log)
        self.assertEqual(breach[:3], (len(log) - 1, "lease", [0, 1]))
        self.assertEqual(len(breach[3]), 40003)
        opened = deeds("0 1", *["0 look", "0 1"] * 20000, "0 open", "0 open", "0 open")
        breach = breach_by_watches([("twice", TWICE)], opened)
        self.assertEqual((breach[0], len(breach[3])), (len(opened) - 1, 20003))

    def test_nothing_handed_in_is_changed(self):
        for rules, log, breach in BREACHES:
            before = copy.deepcopy((rules, log))
            told = breach_by_watches(rules, log)
            self.assertEqual((rules, log), before)
            if told is not None:
                told[2].append("spoiled")
                told[3].append("spoiled")
                self.assertEqual(breach_by_watches(rules, log), breach)

    def test_rows_that_break_break_as_the_rule_tells(self):
        chance = random.Random(1804)
        for turn in range(300):
            rule = random_rule(chance, 1, ["a", "b"], 3)
            log = random_log(chance, 2, ["a", "b", "c"], 12)
            breach = breach_by_watches([("r", rule)], log)
            if breach is not None:
                self.assertIsNone(room_after(rule, breach[3]))
                self.assertIsNotNone(room_after(rule, breach[3][:-1]))


if __name__ == "__main__":
    unittest.main()
