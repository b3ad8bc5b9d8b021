"""Whether a rule follows from another, and the needed rules of a list [2, 3, 6, 11, 12]."""

import copy
import random
import unittest

from helpers import (
    SIXTEEN, SIXTEEN_MORE, SIXTEEN_SIDED, barring, check_own, door, free, lease, random_rule, ring_rule, rows_upto, rules_of,
    sided, steps_rule,
)
from usewarden.errors import NoFit, UseError
from usewarden.follows import needed_rules, row_apart
from usewarden.joins import either_rule, joined_rule
from usewarden.leastrules import least_rule
from usewarden.rules import room_after

NAMES = ["one", "two", "three", "four", "five", "six", "seven", "eight", "nine", "ten"]


def named(*rules):
    """A list of the rules with names."""
    return list(zip(NAMES, rules))


def names_needed(*rules):
    """The names of the needed ones of the rules."""
    return [name for name, rule in needed_rules(named(*rules))]


class Apart(unittest.TestCase):
    def check(self, other, one, row):
        before = copy.deepcopy((other, one))
        self.assertEqual(row_apart(other, one), row)
        self.assertEqual((other, one), before)

    def test_which_is_kept_and_which_is_broken(self):
        self.check(free(1), barring(1, "a"), ["a"])
        self.check(barring(1, "a"), free(1), None)
        self.check(steps_rule(2, None), steps_rule(4, None), None)
        self.check(steps_rule(4, None), steps_rule(2, None), ["go", "go"])

    def test_ordinary_rules(self):
        once = (1, ["open"], [[1], [None]])
        self.check(door(), once, ["open", "close", "open"])
        self.check(once, door(), ["close"])
        self.check(joined_rule(door(), once), once, None)
        self.check(lease(), barring(2, "2.read"), ["1.open", "2.read"])
        self.check(barring(2, "2.read"), lease(), None)

    def test_alike_rules(self):
        for rule in (door(), lease(), free(1), free(2), steps_rule(60, None), barring(1, *SIXTEEN), barring(2, *SIXTEEN_SIDED)):
            self.check(rule, rule, None)
            self.check(rule, least_rule(rule), None)
        self.check((1, ["a", "b"], [[1, None], [0, None]]), barring(1, "b"), None)
        self.check(barring(1, "b"), (1, ["a", "b"], [[1, None], [0, None]]), None)

    def test_no_words(self):
        for rule in (free(1), (1, [], [[] for at in range(60)]), (1, SIXTEEN, [[0] * 16]), steps_rule(60, 0)):
            self.check(rule, free(1), None)
            self.check(free(1), rule, None)
        self.check(free(2), (2, [], [[], []]), None)

    def test_each_length(self):
        for count in range(1, 61):
            self.check(free(1), steps_rule(count, None), ["go"] * count)
            self.check(sided(steps_rule(60, 0)), sided(steps_rule(count, None)), ["2.go"] * count)
        for count in range(1, 60):
            self.check(steps_rule(count + 1, None), steps_rule(count, None), ["go"] * count)
            self.check(steps_rule(count, None), steps_rule(count + 1, None), None)

    def test_great_lengths(self):
        # `b` is let by in but one of 59 rooms by the other, and broken in but one of 60 by the one.
        other = (1, ["a", "b"], [[(at + 1) % 59, 0 if at == 0 else None] for at in range(59)])
        for where in (0, 1, 2, 30, 58, 59):
            turns = [count for count in range(59 * 60) if count % 59 == 0 and count % 60 == where]
            self.assertEqual(len(turns), 1)
            self.check(other, ring_rule(60, "a", "b", where), ["a"] * turns[0] + ["b"])

    def test_pairs_that_never_meet(self):
        other = (1, ["a", "b"], [[(at + 1) % 60, 0 if at == 0 else None] for at in range(60)])
        for where in range(1, 30):
            self.check(other, ring_rule(30, "a", "b", where), None)
        self.check(other, ring_rule(30, "a", "b", 0), ["b"])

    def test_the_shorter_row_first(self):
        self.check(free(1), (1, ["a", "z"], [[1, None], [None, 1]]), ["z"])
        self.check(free(1), (1, ["a", "b", "z"], [[1, 0, 2], [3, 1, 1], [2, 2, None], [None, 3, 3]]), ["z", "z"])

    def test_of_equally_long_rows_the_lesser(self):
        self.check(free(1), barring(1, "b", "c", "d"), ["b"])
        self.check(barring(1, "b"), barring(1, "b", "c", "d"), ["c"])
        # `a`, `c` and `b`, `a` both break: the first place tells.
        self.check(free(1), (1, ["a", "b", "c"], [[1, 2, 0], [1, 1, None], [None, 2, 2]]), ["a", "c"])
        self.check(free(1), (1, ["a", "b", "c"], [[1, 2, 0], [1, 1, 1], [2, None, None]]), ["b", "b"])
        self.check(free(2), barring(2, "1.z", "2.a"), ["1.z"])
        self.check(free(1), barring(1, "aa", "b"), ["aa"])

    def test_a_text_that_breaks_both(self):
        self.check(barring(1, "a"), barring(1, "a"), None)
        self.check((1, ["a", "b"], [[1, 0], [None, 1]]), (1, ["a", "b"], [[1, 0], [None, None]]), ["a", "b"])

    def test_words_of_but_one_rule(self):
        # The other must be brought by a word of its own to where it lets `a` by.
        other = (1, ["a", "key"], [[None, 1], [1, 1]])
        self.check(other, barring(1, "a"), ["key", "a"])
        self.check(barring(1, "a"), other, None)
        # The one must be brought by a word of its own to where it breaks.
        one = (1, ["a", "key"], [[0, 1], [None, 1]])
        self.check(barring(1, "z"), one, ["key", "a"])
        self.check(barring(1, "key"), one, None)
        self.check((1, SIXTEEN_MORE, [[0] * 16]), barring(1, *SIXTEEN), ["a"])
        self.check(barring(1, *SIXTEEN), barring(1, *SIXTEEN_MORE), ["q"])
        self.check(barring(1, *SIXTEEN_MORE), barring(1, *SIXTEEN), ["a"])

    def test_every_small_pair(self):
        # Two rules of two rooms have four pairs of rooms, so the least row has four texts at most.
        rows = rows_upto("abc", 4)
        rules = [rule for words in (["a", "b"], ["b", "c"]) for count in (1, 2) for rule in rules_of(1, words, count)]
        broken = [[room_after(rule, row) is None for row in rows] for rule in rules]
        found = set()
        for other, breaks_other in zip(rules, broken):
            for one, breaks_one in zip(rules, broken):
                apart = [row for row, *breaks in zip(rows, breaks_other, breaks_one) if breaks == [False, True]]
                row = row_apart(other, one)
                self.assertEqual(row, apart[0] if apart else None)
                found.add(None if row is None else len(row))
        self.assertEqual(found, {None, 1, 2, 3, 4})

    def test_greater_pairs_by_chance(self):
        chance = random.Random(12)
        rows = rows_upto("ab", 9)
        for turn in range(200):
            other, one = (random_rule(chance, 1, ["a", "b"], 3) for side in range(2))
            apart = [row for row in rows if room_after(other, row) is not None and room_after(one, row) is None]
            self.assertEqual(row_apart(other, one), apart[0] if apart else None)

    def test_what_follows_from_what_is_joined(self):
        chance = random.Random(13)
        for turn in range(200):
            one = random_rule(chance, 1, ["a", "b", "c"], 1 + turn % 5)
            other = random_rule(chance, 1, ["b", "c", "d"], 1 + turn % 4)
            for rule in (one, other):
                self.assertIsNone(row_apart(joined_rule(one, other), rule))
                self.assertIsNone(row_apart(rule, either_rule(one, other)))

    def test_the_greatest_rules(self):
        chance = random.Random(14)
        for turn in range(10):
            other = random_rule(chance, 1, SIXTEEN, 60)
            one = random_rule(chance, 1, SIXTEEN_MORE, 60)
            row = row_apart(other, one)
            self.assertIsNotNone(room_after(other, row))
            self.assertIsNone(room_after(one, row))
            self.assertIsNotNone(room_after(one, row[:-1]))

    def test_beyond_the_bounds(self):
        self.check(free(1), steps_rule(75, None), ["go"] * 75)
        self.check(steps_rule(75, None), steps_rule(74, None), ["go"] * 74)
        self.check(free(1), barring(1, *SIXTEEN, "q"), ["a"])

    def test_unlike_sides_are_refused(self):
        for one, other in ((door(), lease()), (free(1), free(2)), (barring(1, "a"), barring(2, "1.a"))):
            before = copy.deepcopy((one, other))
            for pair in ((one, other), (other, one)):
                with self.assertRaises(NoFit):
                    row_apart(*pair)
                with self.assertRaises(UseError):
                    row_apart(*pair)
            self.assertEqual((one, other), before)

    def test_the_row_is_the_asker_s_own(self):
        for other, one in ((free(1), steps_rule(3, None)), (free(1), barring(1, "a")), (door(), door()), (lease(), free(2))):
            check_own(self, row_apart, other, one)


class Needed(unittest.TestCase):
    def test_none(self):
        self.assertEqual(needed_rules([]), [])

    def test_one_rule_is_needed_even_if_nothing_breaks_it(self):
        for rule in (door(), lease(), free(1), free(2), steps_rule(60, None), (1, SIXTEEN, [[0] * 16])):
            self.assertEqual(needed_rules([("x", rule)]), [("x", rule)])

    def test_told_as_they_are_handed_in(self):
        # Not least, and not otherwise made new.
        rule = (1, ["a", "b"], [[1, None], [0, None], [2, 2]])
        self.assertEqual(needed_rules([("x", rule)]), [("x", (1, ["a", "b"], [[1, None], [0, None], [2, 2]]))])

    def test_kinds(self):
        told = needed_rules(named(door(), lease()))
        self.assertIs(type(told), list)
        self.assertEqual([type(part) for part in told], [tuple, tuple])

    def test_what_follows_is_left_out(self):
        self.assertEqual(names_needed(steps_rule(2, None), steps_rule(4, None)), ["one"])
        self.assertEqual(names_needed(door(), free(1)), ["one"])
        self.assertEqual(names_needed(barring(1, "a", "b"), barring(1, "b"), barring(1, "a"), barring(1, "c")), ["one", "four"])

    def test_only_those_ahead_count(self):
        self.assertEqual(names_needed(steps_rule(4, None), steps_rule(2, None)), ["one", "two"])
        self.assertEqual(names_needed(free(1), door()), ["one", "two"])
        self.assertEqual(names_needed(*[steps_rule(count, None) for count in (8, 7, 6, 5, 4, 3, 2, 1)]), NAMES[:8])
        self.assertEqual(names_needed(*[steps_rule(count, None) for count in (1, 2, 3, 4, 5, 6, 7, 8)]), ["one"])
        self.assertEqual(names_needed(*[steps_rule(count, None) for count in (5, 7, 3, 6, 4, 1, 2, 60)]), ["one", "three", "six"])

    def test_alike_rules_the_first_stays(self):
        self.assertEqual(names_needed(door(), door()), ["one"])
        self.assertEqual(names_needed(barring(1, "b"), (1, ["a", "b"], [[1, None], [0, None]])), ["one"])
        self.assertEqual(names_needed(*[lease() for turn in range(8)]), ["one"])

    def test_not_from_several_together(self):
        both = joined_rule(barring(1, "a"), barring(1, "b"))
        self.assertEqual(names_needed(barring(1, "a"), barring(1, "b"), both), ["one", "two", "three"])

    def test_from_one_that_is_left_out_itself(self):
        self.assertEqual(names_needed(barring(1, "a", "b"), barring(1, "a"), (1, ["a"], [[1], [None]])), ["one"])

    def test_from_one_that_stands_far_ahead(self):
        self.assertEqual(names_needed(barring(1, "a", "z"), lease(), door(), steps_rule(3, None), barring(1, "z")), NAMES[:4])

    def test_unlike_sides_stay_apart(self):
        self.assertEqual(names_needed(free(1), free(2)), ["one", "two"])
        self.assertEqual(names_needed(barring(1, "a"), free(2), free(1), barring(2, "1.a"), free(2)), ["one", "two", "four"])
        self.assertEqual(names_needed(door(), lease(), lease(), door()), ["one", "two"])

    def test_names_are_kept_and_never_asked(self):
        self.assertEqual(needed_rules([("z", door()), ("a", lease()), ("open", door())]), [("z", door()), ("a", lease())])

    def test_by_chance(self):
        chance = random.Random(15)
        rows = {1: rows_upto(["a", "b"], 4), 2: rows_upto(["1.a", "2.a"], 4)}
        for turn in range(200):
            rules = []
            for place in range(turn % 9):
                sides = chance.choice([1, 1, 2])
                rules.append(random_rule(chance, sides, ["a", "b"] if sides == 1 else ["1.a", "2.a"], chance.choice([1, 1, 2])))
            broken = [{tuple(row) for row in rows[rule[0]] if room_after(rule, row) is None} for rule in rules]
            needed = []
            for at, rule in enumerate(rules):
                if not any(rules[ahead][0] == rule[0] and broken[at] <= broken[ahead] for ahead in range(at)):
                    needed.append((NAMES[at], rule))
            self.assertEqual(needed_rules(named(*rules)), needed)

    def test_eight_of_the_greatest(self):
        rules = []
        for count in range(8):
            rooms = [[(at + place + count) % 60 for place in range(15)] + [None] for at in range(60)]
            rules.append((1, SIXTEEN, rooms))
        self.assertEqual(needed_rules(named(*rules)), [("one", rules[0])])

    def test_beyond_the_bounds(self):
        rules = named(*[steps_rule(count, None) for count in (75, 74, 73, 72, 71, 70, 69, 68, 67, 66)])
        self.assertEqual(needed_rules(rules), rules)

    def test_nothing_is_changed(self):
        rules = named(door(), lease(), door(), free(1), steps_rule(60, None))
        before = copy.deepcopy(rules)
        needed_rules(rules)
        self.assertEqual(rules, before)

    def test_every_list_is_new(self):
        same = [0, None]
        check_own(self, needed_rules, named(door(), lease(), (1, ["a", "b"], [same, same]), free(1)))
        check_own(self, needed_rules, [])


if __name__ == "__main__":
    unittest.main()
