"""Breaches in logs, those of runs and others [2, 6, 12, 18, 19]."""

import random
import unittest

from helpers import (
    SIXTEEN, SIXTEEN_SIDED, barring, breach_by_rows, check_own, deeds, door, free, lease, random_log, ring_rule, rules_by_chance,
    runs_by_chance, sided, sixty_lines, steps_rule,
)
from usewarden.breaches import breach_in
from usewarden.plainruns import run_plain
from usewarden.rules import is_rule, room_after

# A tie may be opened on its first side twice, but not thrice.
TWICE = (2, ["1.open"], [[1], [2], [None]])
NO_END = ("noend", barring(1, "end"))

# Each a list of rules, a log, and the breach.
BREACHES = [
    ([], [], None),
    ([], deeds("0 open", "0 1", "1 end"), None),
    ([("door", door())], [], None),
    ([("door", door())], deeds("0 open", "0 read", "0 close", "0 open", "0 end"), None),
    ([("door", door())], deeds("0 read"), (0, "door", [0], ["read"])),
    ([("door", door())], deeds("0 open", "1 open", "0 close", "0 read"), (3, "door", [0], ["open", "close", "read"])),
    # Each handle has a row of its own; other words stand in it, too.
    ([("door", door())], deeds("0 open", "1 open", "0 look", "1 look", "0 close", "1 read", "0 close"), (
        6, "door", [0], ["open", "look", "close", "close"])),
    # Handles of a log may have any number, and need not be opened.
    ([("door", door())], deeds("7 look", "70 look", "70 open", "7 close"), (3, "door", [7], ["look", "close"])),
    # Of two rules broken with one deed the first of the list; of two deeds the first.
    ([("one", barring(1, "a")), ("two", barring(1, "a"))], deeds("0 a"), (0, "one", [0], ["a"])),
    ([("one", barring(1, "a")), ("two", barring(1, "b"))], deeds("0 b", "0 a"), (0, "two", [0], ["b"])),
    ([("tied", barring(2, "1.a")), ("one", barring(1, "a"))], deeds("0 1", "0 a"), (1, "tied", [0, 1], ["1.a"])),
    ([("one", barring(1, "a")), ("tied", barring(2, "1.a"))], deeds("0 1", "0 a"), (1, "one", [0], ["a"])),
    # A tie's row begins behind it, and is of both handles.
    ([("lease", lease())], deeds("0 open", "1 open", "1 read", "0 1", "1 read"), (4, "lease", [0, 1], ["2.read"])),
    ([("lease", lease())], deeds("0 1", "0 open", "2 read", "1 read", "0 close", "1 read"), (
        5, "lease", [0, 1], ["1.open", "2.read", "1.close", "2.read"])),
    ([("lease", lease())], deeds("0 1", "0 open", "0 read", "1 open", "1 read", "0 end", "1 end"), None),
    # The order in which two are tied counts.
    ([("lease", lease())], deeds("1 0", "0 open", "1 open", "0 read", "1 read"), None),
    ([("lease", lease())], deeds("0 1", "1 0", "0 open", "1 open", "1 close", "0 read"), (
        5, "lease", [1, 0], ["2.open", "1.open", "1.close", "2.read"])),
    # Two ties of the same handles are two, and the earliest one that breaks it is told.
    ([("twice", TWICE)], deeds("0 1", "0 open", "0 1", "0 open", "0 1", "0 open"), (
        5, "twice", [0, 1], ["1.open", "1.open", "1.open"])),
    ([("lease", lease())], deeds("0 1", "0 1", "1 read"), (2, "lease", [0, 1], ["2.read"])),
    ([("lease", lease())], deeds("0 1", "0 open", "0 1", "1 read"), (3, "lease", [0, 1], ["2.read"])),
    ([("lease", lease())], deeds("0 1", "0 open", "0 1", "1 look", "0 close", "0 1", "1 read"), (
        6, "lease", [0, 1], ["1.open", "2.look", "1.close", "2.read"])),
    ([("lease", lease())], deeds("2 1", "0 1", "1 look", "1 read"), (3, "lease", [2, 1], ["2.look", "2.read"])),
    ([("lease", lease())], deeds("0 1", "2 1", "0 open", "1 read"), (3, "lease", [2, 1], ["2.read"])),
    # The ends are deeds like others.
    ([NO_END], deeds("0 open", "1 open", "0 end"), (2, "noend", [0], ["open", "end"])),
    ([("free", free(1)), ("freed", free(2)), NO_END], deeds("0 1", "1 end"), (1, "noend", [1], ["end"])),
    # So are `open`, `lend` and `back`.
    ([("noopen", barring(1, "open"))], deeds("0 look", "1 open"), (1, "noopen", [1], ["open"])),
    ([("noback", barring(1, "back"))], deeds("0 open", "0 lend", "0 back"), (2, "noback", [0], ["open", "lend", "back"])),
    ([("noback", barring(2, "2.back"))], deeds("1 0", "0 lend", "1 back", "0 back"), (
        3, "noback", [1, 0], ["2.lend", "1.back", "2.back"])),
    # No run tells these: ends in the midst, deeds behind them, handles that none opened, ties ahead of all, lines at will.
    ([("door", door())], deeds("5 end", "5 open", "5 end", "5 open"), (3, "door", [5], ["end", "open", "end", "open"])),
    ([("lease", lease())], deeds("9 8", "8 end", "8 read"), (2, "lease", [9, 8], ["2.end", "2.read"])),
    ([("door", door())], [(7, 3, "open", 5), (7, 3, "open", -5)], (1, "door", [3], ["open", "open"])),
    # Ties behind deeds: what was done ahead of the tie isn't in its row.
    ([("twice", TWICE)], deeds("0 open", "0 open", "0 1", "0 open", "0 open"), None),
    ([("twice", TWICE)], deeds("0 open", "0 1", "0 open", "0 open", "0 open"), (4, "twice", [0, 1], ["1.open"] * 3)),
    # One entry breaks several ties, of unlike handles and turned about: the earliest of them, not the least handles.
    ([("both", barring(2, "1.a", "2.a"))], deeds("5 4", "4 5", "3 4", "4 a"), (3, "both", [5, 4], ["2.a"])),
    ([("both", barring(2, "1.a", "2.a"))], deeds("4 5", "5 4", "4 a"), (2, "both", [4, 5], ["1.a"])),
    ([("first", barring(2, "1.a"))], deeds("5 4", "4 5", "4 3", "4 a"), (3, "first", [4, 5], ["1.a"])),
    # One entry breaks several rules, each by other ties: the first rule, however late its tie.
    ([("one", barring(2, "1.a")), ("two", barring(2, "2.a"))], deeds("1 0", "0 2", "0 a"), (2, "one", [0, 2], ["1.a"])),
    ([("two", barring(2, "2.a")), ("one", barring(2, "1.a"))], deeds("0 2", "1 0", "0 a"), (2, "two", [1, 0], ["2.a"])),
    ([("free", free(2)), ("two", barring(2, "2.a")), ("one", barring(1, "a"))], deeds("1 0", "0 b", "0 a"), (
        2, "two", [1, 0], ["2.b", "2.a"])),
    # A rule that was all but broken is broken with a later entry than another one.
    ([("long", steps_rule(3, None)), ("a", barring(1, "a"))], deeds("0 go", "0 go", "1 a", "0 go"), (2, "a", [1], ["a"])),
    # Rules without words are never broken.
    ([("free", free(1)), ("freed", free(2))], deeds("0 1", "0 open", "1 end"), None),
]


class Breaches(unittest.TestCase):
    def test_breaches_that_are_known(self):
        for rules, log, breach in BREACHES:
            self.assertEqual(breach_in(rules, log), breach, (rules, log))
            self.assertEqual(breach_by_rows(rules, log), breach, (rules, log))

    def check(self, rules, log):
        breach = breach_by_rows(rules, log)
        self.assertEqual(breach_in(rules, log), breach, (rules, log))
        return breach is not None

    def test_logs_by_chance(self):
        chance = random.Random(1901)
        found = []
        for turn in range(3000):
            words = ["a", "b", "end"]
            log = random_log(chance, chance.randrange(1, 4), words, chance.randrange(1, 30))
            found.append(self.check(rules_by_chance(chance, words, 4), log))
        self.assertGreater(found.count(True), 500)
        self.assertGreater(found.count(False), 500)

    def test_eight_rules(self):
        chance = random.Random(1902)
        names = []
        for turn in range(300):
            rules = []
            while len(rules) < 8:
                rules = rules_by_chance(chance, ["a", "b", "c", "open", "back", "end"], 8)
            log = random_log(chance, chance.randrange(1, 6), ["a", "b", "c", "open", "back", "end", "other"], 40)
            if self.check(rules, log):
                names.append(breach_in(rules, log)[1])
        self.assertEqual(len(set(names)), 8)

    def test_each_entry_of_a_log_by_itself(self):
        # What a log tells up to the breach is told of each longer one, and nothing is told of each shorter one.
        chance = random.Random(1903)
        for turn in range(200):
            rules = rules_by_chance(chance, ["a", "b"], 4)
            log = random_log(chance, 3, ["a", "b"], 20)
            breach = breach_in(rules, log)
            for count in range(len(log) + 1):
                broken = breach is not None and count > breach[0]
                self.assertEqual(breach_in(rules, log[:count]), breach if broken else None)

    def test_logs_of_programs(self):
        found = []
        chance = random.Random(1904)
        for program, inputs, log in runs_by_chance(chance, 1000):
            found.append(self.check(rules_by_chance(chance, ["open", "do", "back", "end", "lend"], 4), log))
        self.assertGreater(found.count(True), 100)
        self.assertGreater(found.count(False), 500)

    def test_logs_of_a_great_program(self):
        chance = random.Random(1905)
        found = []
        for turn in range(60):
            log = run_plain(sixty_lines(), [chance.choice([-1, 1, 2, 2, 2, 2]) for place in range(40)])
            rules = [
                ("ring", ring_rule(60, "deep", "end", chance.randrange(60))),
                ("tied", ring_rule(chance.randrange(1, 5), "1.loop", "2.end", chance.randrange(1, 3))),
                ("lent", (1, ["back", "end", "lend"], [[None, 0, 1], [0, None, 2], [1, None, 1]])),
            ]
            found.append(self.check(rules, log))
        self.assertEqual(set(found), {True, False})

    def test_rules_of_sixteen_words_and_sixty_rooms(self):
        chance = random.Random(1906)
        found = []
        for turn in range(100):
            for sides, words in ((1, SIXTEEN), (2, SIXTEEN_SIDED)):
                rooms = [[None if chance.random() < 0.02 else chance.randrange(60) for word in words] for room in range(60)]
                rule = (sides, list(words), rooms)
                self.assertTrue(is_rule(rule))
                found.append(self.check([("great", rule)], random_log(chance, 3, list("abcdefghijz"), 60)))
        self.assertEqual(set(found), {True, False})

    def test_the_last_of_sixty_rooms(self):
        for rule, ahead in ((steps_rule(60, None), []), (sided(steps_rule(60, None)), deeds("4 3"))):
            self.assertIsNone(breach_in([("long", rule)], ahead + deeds(*["3 go", "3 other"] * 59)))
            log = ahead + deeds(*["3 go", "3 other"] * 59, "3 go")
            prefix = "2." if ahead else ""
            row = [prefix + word for word in ["go", "other"] * 59 + ["go"]]
            self.assertEqual(breach_in([("long", rule)], log), (len(log) - 1, "long", [4, 3] if ahead else [3], row))

    def test_long_logs(self):
        log = deeds(*["0 open", "0 read", "0 close"] * 20000)
        self.assertIsNone(breach_in([("door", door()), ("lease", lease())], log))
        breach = breach_in([("free", free(1)), ("door", door())], log + deeds("0 close"))
        self.assertEqual(breach[:3], (60000, "door", [0]))
        self.assertEqual(breach[3], ["open", "read", "close"] * 20000 + ["close"])

    def test_many_handles(self):
        log = deeds(*[f"{handle} open" for handle in range(20000)], *[f"{handle} end" for handle in range(20000)])
        rules = [("door", door()), ("lease", lease()), ("noend", (1, ["end"], [[0]]))]
        self.assertIsNone(breach_in(rules, log))
        self.assertEqual(breach_in(rules, log + deeds("7777 open")), (40000, "door", [7777], ["open", "end", "open"]))
        log = deeds(*[f"{handle} {handle + 1}" for handle in range(20000)], *[f"{handle} open" for handle in range(20000)])
        self.assertIsNone(breach_in(rules, log))
        breach = breach_in(rules, log + deeds("12345 close", "12346 read"))
        self.assertEqual(breach, (40001, "lease", [12345, 12346], ["1.open", "2.open", "1.close", "2.read"]))

    def test_one_handle_tied_with_many(self):
        log = deeds(*[f"0 {handle}" for handle in range(1, 500)], *["0 open", "0 look", "0 close"] * 100, "300 look")
        self.assertIsNone(breach_in([("lease", lease())], log))
        breach = breach_in([("lease", lease())], log + deeds("300 read"))
        self.assertEqual(breach[:3], (len(log), "lease", [0, 300]))
        self.assertEqual(breach[3], ["1.open", "1.look", "1.close"] * 100 + ["2.look", "2.read"])

    def test_many_ties_of_the_same_handles(self):
        # However many ties there are, the earliest of those in one room stands for the others.
        log = deeds("0 1", "0 open", *["0 1", "0 look", "1 look"] * 20000, "0 close", "1 read")
        breach = breach_in([("twice", TWICE), ("lease", lease())], log)
        self.assertEqual(breach[:3], (len(log) - 1, "lease", [0, 1]))
        self.assertEqual(len(breach[3]), 40003)
        opened = deeds("0 1", *["0 look", "0 1"] * 20000, "0 open", "0 open", "0 open")
        breach = breach_in([("twice", TWICE)], opened)
        self.assertEqual((breach[0], len(breach[3])), (len(opened) - 1, 20003))

    def test_great_numbers(self):
        great = 10 ** 60
        log = [(great, great, "open", -great), (great, great, great + 1), (7, great + 1, "read", great)]
        self.assertEqual(breach_in([("lease", lease())], log), (2, "lease", [great, great + 1], ["2.read"]))
        self.assertEqual(breach_in([("door", door())], log), (2, "door", [great + 1], ["read"]))

    def test_rows_that_are_told_break_the_rule_with_their_last_text(self):
        chance = random.Random(1907)
        found = 0
        for turn in range(500):
            rules = rules_by_chance(chance, ["a", "b"], 3)
            breach = breach_in(rules, random_log(chance, 3, ["a", "b", "c"], 20))
            if breach is not None:
                found += 1
                rule = dict(rules)[breach[1]]
                self.assertEqual(len(breach[2]), rule[0])
                self.assertIsNone(room_after(rule, breach[3]))
                self.assertIsNotNone(room_after(rule, breach[3][:-1]))
        self.assertGreater(found, 100)

    def test_nothing_handed_in_is_changed_and_what_is_told_is_the_askers_own(self):
        for rules, log, breach in BREACHES:
            check_own(self, breach_in, rules, log)
        check_own(self, breach_in, [("long", steps_rule(60, None))], deeds(*["3 go"] * 60))

    def test_the_kinds_of_what_is_told(self):
        for rules, log, breach in BREACHES:
            told = breach_in(rules, log)
            if told is not None:
                self.assertEqual([part.__class__ for part in told], [int, str, list, list])
                self.assertEqual({handle.__class__ for handle in told[2]}, {int})


if __name__ == "__main__":
    unittest.main()
