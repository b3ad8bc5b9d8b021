"""Rules joined, and either of two rules [2, 3, 6, 9, 10]."""

import copy
import random
import unittest

from helpers import (
    SIXTEEN, SIXTEEN_MORE, SIXTEEN_SIDED, barring, check_own, door, free, lease, random_rule, ring_rule, rows_upto, rules_of,
    sided, steps_rule, way_by,
)
from usewarden.errors import NoFit, TooGreat, UseError
from usewarden.joins import either_rule, joined_rule
from usewarden.leastrules import least_rule
from usewarden.rules import is_rule, room_after

# Of whether one and the other are kept: whether what comes is.
JOINS = ((joined_rule, lambda one, other: one and other), (either_rule, lambda one, other: one or other))


def first_apart(one, other, made, is_kept):
    """The rooms of all three where a row first leads that what was made takes otherwise than both say; or None."""
    texts = sorted({*one[1], *other[1], *made[1], "zzz"})
    met = [(0, 0, 0)]
    seen = set(met)
    for here in met:
        for text in texts:
            there = (way_by(one, here[0], text), way_by(other, here[1], text), way_by(made, here[2], text))
            if is_kept(there[0] is not None, there[1] is not None) != (there[2] is not None):
                return there
            if there[2] is not None and there not in seen:
                seen.add(there)
                met.append(there)
    return None


def only_a(count):
    """Just rows of `a` keep it, and of other words than `b`, so many `a` at most."""
    return (1, ["a", "b"], [[at + 1, None] for at in range(count)] + [[None, None]])


def only_b(count):
    """The same with `b`."""
    return (1, ["a", "b"], [[None, at + 1] for at in range(count)] + [[None, None]])


def counting(count, stop):
    """`a` is counted up to so many; there `stop` breaks, and it stays."""
    return (1, ["a", stop], [[at + 1, at] for at in range(count)] + [[count, None]])


class Checked(unittest.TestCase):
    def check(self, one, other):
        """What comes of both, joined and either, is kept by the rows told, is least, and the same the other way round."""
        before = copy.deepcopy((one, other))
        for join, is_kept in JOINS:
            made = join(one, other)
            self.assertIsNone(first_apart(one, other, made, is_kept))
            self.assertEqual(made[0], one[0])
            self.assertIs(is_rule(made), True)
            self.assertEqual(least_rule(made), made)
            self.assertEqual(join(other, one), made)
        self.assertEqual((one, other), before)


class Told(Checked):
    def test_written_out(self):
        once = (1, ["open"], [[1], [None]])
        self.assertEqual(joined_rule(door(), once), (1, ["close", "open", "read"], [[None, 1, None], [2, None, 1], [None, None, None]]))
        self.assertEqual(either_rule(barring(1, "a"), barring(1, "b")), (1, ["a", "b"], [[1, 2], [1, None], [None, 2]]))
        self.assertEqual(joined_rule(barring(1, "a"), barring(1, "b")), (1, ["a", "b"], [[None, None]]))
        self.assertEqual(either_rule(barring(1, "a", "b"), barring(1, "b", "c")),
                         (1, ["a", "b", "c"], [[1, None, 2], [1, None, None], [None, None, 2]]))
        self.assertEqual(joined_rule(barring(2, "1.a"), barring(2, "2.a")), (2, ["1.a", "2.a"], [[None, None]]))
        self.assertEqual(either_rule(barring(2, "1.a"), barring(2, "2.a")),
                         (2, ["1.a", "2.a"], [[1, 2], [1, None], [None, 2]]))

    def test_the_order_of_the_rooms(self):
        # `z` alone is a lesser row than `a` after `a`; `a`, `z` than `z`, `a`.
        one = (1, ["a"], [[1], [2], [None]])
        other = (1, ["z"], [[1], [2], [None]])
        made = joined_rule(one, other)
        rows = [[], ["a"], ["z"], ["a", "a"], ["a", "z"], ["z", "z"], ["a", "a", "z"], ["a", "z", "z"], ["a", "a", "z", "z"]]
        self.assertEqual([room_after(made, row) for row in rows], list(range(9)))
        self.assertEqual(joined_rule(other, one), made)

    def test_a_rule_that_nothing_breaks(self):
        for rule in (door(), steps_rule(60, None), (1, SIXTEEN, [[1] * 16, [None] * 16])):
            self.assertEqual(joined_rule(rule, free(1)), least_rule(rule))
            self.assertEqual(joined_rule(free(1), rule), least_rule(rule))
            self.assertEqual(either_rule(rule, free(1)), free(1))
            self.assertEqual(either_rule(free(1), rule), free(1))
        for rule in (lease(), (2, SIXTEEN_SIDED, [[None] * 16])):
            self.assertEqual(joined_rule(rule, free(2)), least_rule(rule))
            self.assertEqual(either_rule(free(2), rule), free(2))

    def test_a_rule_with_itself(self):
        for rule in (door(), lease(), free(1), free(2), steps_rule(60, None), (1, ["a", "b"], [[1, None], [0, None]])):
            for join, is_kept in JOINS:
                self.assertEqual(join(rule, rule), least_rule(rule))

    def test_one_rule_that_follows_from_the_other(self):
        for join, kept in ((joined_rule, steps_rule(20, None)), (either_rule, steps_rule(60, None))):
            self.assertEqual(join(steps_rule(60, None), steps_rule(20, None)), kept)
            self.assertEqual(join(steps_rule(20, None), steps_rule(60, None)), kept)

    def test_broken_once_is_broken_for_ever(self):
        # After `a` the one is broken: `b` isn't to bring it back.
        one = (1, ["a", "b"], [[None, 0]])
        other = (1, ["b", "c"], [[1, 0], [1, None]])
        made = either_rule(one, other)
        self.assertIsNone(room_after(made, ["a", "b", "c"]))
        self.assertIsNone(room_after(made, ["b", "c", "a"]))
        self.assertIsNotNone(room_after(made, ["b", "c", "b", "c"]))
        self.assertIsNotNone(room_after(made, ["a", "c", "a", "b"]))

    def test_no_words_and_many_rooms(self):
        self.check((1, [], [[] for at in range(60)]), (1, [], [[]]))
        self.check((2, [], [[] for at in range(60)]), lease())
        self.check((1, [], [[]]), (1, ["a"], [[0]]))


class Rows(Checked):
    def test_every_small_pair(self):
        rules = [rule for words in (["a"], ["b"], ["a", "b"]) for rule in rules_of(1, words, 1)]
        rules += [rule for words in (["a"], ["b"]) for rule in rules_of(1, words, 2)]
        for one in rules:
            for other in rules:
                self.check(one, other)

    def test_rows_by_themselves(self):
        chance = random.Random(10)
        rows = rows_upto("abcd", 4)
        for turn in range(60):
            one = random_rule(chance, 1, ["a", "b", "c"], 1 + turn % 4)
            other = random_rule(chance, 1, ["b", "c", "d"], 1 + turn % 3)
            for join, is_kept in JOINS:
                made = join(one, other)
                for row in rows:
                    kept = is_kept(room_after(one, row) is not None, room_after(other, row) is not None)
                    self.assertEqual(room_after(made, row) is not None, kept)

    def test_by_chance(self):
        chance = random.Random(11)
        for turn in range(300):
            sides = 1 + turn % 2
            words = ["a", "b", "c"] if sides == 1 else ["1.a", "1.b", "2.a"]
            others = chance.choice([words, words[1:], words[:1], ["d", "e"] if sides == 1 else ["2.d"]])
            self.check(random_rule(chance, sides, words, 1 + turn % 6), random_rule(chance, sides, others, 1 + turn % 5))


class Bounds(Checked):
    def refuse(self, join, one, other):
        before = copy.deepcopy((one, other))
        for pair in ((one, other), (other, one)):
            with self.assertRaises(TooGreat):
                join(*pair)
        self.assertEqual((one, other), before)

    def sizes(self, rule):
        return len(rule[2]), len(rule[1])

    def test_just_sixty_rooms_joined(self):
        for one, other in ((ring_rule(4, "a", "b"), ring_rule(15, "a", "c")), (ring_rule(60, "a", "b"), free(1)),
                           (counting(30, "b"), ring_rule(30, "a", "c")), (ring_rule(6, "a", "x"), ring_rule(10, "b", "y"))):
            for rules in ((one, other), (sided(one), sided(other))):
                made = joined_rule(*rules)
                self.assertEqual(len(made[2]), 60)
                self.assertIsNone(first_apart(*rules, made, JOINS[0][1]))
                self.assertEqual(least_rule(made), made)

    def test_more_than_sixty_rooms_joined(self):
        self.refuse(joined_rule, counting(31, "b"), ring_rule(30, "a", "c"))
        self.refuse(joined_rule, counting(30, "b"), ring_rule(31, "a", "c"))
        self.refuse(joined_rule, sided(counting(31, "b")), sided(ring_rule(30, "a", "c")))
        self.refuse(joined_rule, ring_rule(7, "a", "b"), ring_rule(9, "a", "c"))
        self.refuse(joined_rule, ring_rule(59, "a", "b"), ring_rule(60, "a", "c"))

    def test_just_sixty_rooms_either(self):
        for count in (1, 2, 30, 58, 59):
            made = either_rule(only_a(count), only_b(60 - count))
            self.assertEqual(len(made[2]), 60)
            self.assertIsNone(first_apart(only_a(count), only_b(60 - count), made, JOINS[1][1]))

    def test_more_than_sixty_rooms_either(self):
        for count in (2, 30, 31, 59):
            self.refuse(either_rule, only_a(count), only_b(61 - count))
        self.refuse(either_rule, ring_rule(60, "a", "b"), ring_rule(59, "a", "c"))
        self.refuse(either_rule, sided(only_a(30)), sided(only_b(31)))

    def test_just_sixteen_words(self):
        self.assertEqual(joined_rule(barring(1, *SIXTEEN[:8]), barring(1, *SIXTEEN[8:])), barring(1, *SIXTEEN))
        self.assertEqual(joined_rule(barring(1, *SIXTEEN), barring(1, *SIXTEEN)), barring(1, *SIXTEEN))
        self.assertEqual(joined_rule(barring(2, *SIXTEEN_SIDED), barring(2, "1.h")), barring(2, *SIXTEEN_SIDED))
        self.assertEqual(self.sizes(either_rule(barring(1, *SIXTEEN[:8]), barring(1, *SIXTEEN[8:]))), (3, 16))
        self.assertEqual(self.sizes(either_rule(barring(1, *SIXTEEN[:15]), barring(1, *SIXTEEN[14:]))), (3, 16))

    def test_more_than_sixteen_words(self):
        for join, is_kept in JOINS:
            self.refuse(join, barring(1, *SIXTEEN), barring(1, "q"))
            self.refuse(join, barring(1, *SIXTEEN[:8]), barring(1, *SIXTEEN_MORE[-9:]))
            self.refuse(join, barring(1, *SIXTEEN), barring(1, *SIXTEEN_MORE))
            self.refuse(join, barring(2, *SIXTEEN_SIDED), barring(2, "1.i"))

    def test_both_bounds_at_once(self):
        words = ["a"] + SIXTEEN[1:]
        rooms = [[at + 1] + [at] * 15 for at in range(59)] + [[None] * 16]
        greatest = (1, words, rooms)
        self.assertEqual(self.sizes(joined_rule(greatest, free(1))), (60, 16))
        self.assertEqual(self.sizes(either_rule(greatest, greatest)), (60, 16))
        self.refuse(joined_rule, greatest, barring(1, "z"))

    def test_many_rooms_on_the_way(self):
        # 3540 pairs are met, but in which room the other is never matters.
        still = (1, ["a"], [[(at + 1) % 59] for at in range(59)])
        self.assertEqual(joined_rule(ring_rule(60, "a", "b"), still), ring_rule(60, "a", "b"))
        self.assertEqual(either_rule(ring_rule(60, "a", "b"), still), free(1))
        # Both count by themselves, but nothing hangs on what they count.
        one = (1, ["a", "b"], [[(at + 1) % 60, None] for at in range(60)])
        other = (1, ["a", "b"], [[(at + 1) % 59, None] for at in range(59)])
        for join, is_kept in JOINS:
            self.assertEqual(join(one, other), barring(1, "b"))
        # Apart when least after some turns only.
        paths = (1, ["a", "b"], [[at + 1, (at * 7) % 60] for at in range(59)] + [[None, 59]])
        mixed = (1, ["a", "c"], [[(at + 1) % 60, (at * 11) % 60] for at in range(60)])
        self.assertEqual(joined_rule(paths, mixed), least_rule(paths))

    def test_many_words_on_the_way(self):
        # After `go` the one minds sixteen words, but the other never lets `go` by.
        one = (1, ["go"] + SIXTEEN_MORE[1:], [[1] + [0] * 15, [1] + [None] * 15])
        other = (1, SIXTEEN[:6] + ["go", "halt"], [[0] * 6 + [None, 1], [None] * 6 + [None, 1]])
        made = joined_rule(one, other)
        self.assertEqual(made, least_rule(other))
        self.assertEqual(len(made[1]), 8)
        self.assertEqual(joined_rule((1, SIXTEEN, [[0] * 16]), (1, SIXTEEN_MORE, [[0] * 16])), free(1))
        wide = (1, SIXTEEN, [[(at + place) % 60 for place in range(16)] for at in range(60)])
        wider = (1, SIXTEEN_MORE, [[(at * place + 1) % 60 for place in range(15)] + [None] for at in range(60)])
        self.assertEqual(joined_rule(wide, wider), barring(1, "z"))
        self.assertEqual(either_rule(wide, wider), free(1))
        self.assertEqual(either_rule(wide, barring(1, *SIXTEEN_MORE)), free(1))

    def test_a_bound_met_by_what_is_not_least(self):
        # Sixty-one pairs that are sixty when least.
        one = (1, ["a", "b"], [[at + 1, at] for at in range(29)] + [[30, None], [30, None]])
        made = joined_rule(one, ring_rule(31, "a", "c"))
        self.assertEqual(len(made[2]), 29 + 31)
        self.assertIsNone(first_apart(one, ring_rule(31, "a", "c"), made, JOINS[0][1]))

    def test_handed_in_beyond_the_bounds(self):
        long = steps_rule(75, None)
        self.refuse(joined_rule, long, free(1))
        self.refuse(either_rule, long, long)
        self.assertEqual(joined_rule(long, steps_rule(60, None)), steps_rule(60, None))
        self.assertEqual(either_rule(long, free(1)), free(1))
        self.assertEqual(joined_rule(steps_rule(75, 0), free(1)), free(1))


class Refused(unittest.TestCase):
    def test_unlike_sides(self):
        for join, is_kept in JOINS:
            for one, other in ((door(), lease()), (free(1), free(2)), (steps_rule(60, None), barring(2, "1.a"))):
                before = copy.deepcopy((one, other))
                for pair in ((one, other), (other, one)):
                    with self.assertRaises(NoFit):
                        join(*pair)
                self.assertEqual((one, other), before)

    def test_unlike_sides_are_told_ahead_of_greatness(self):
        greats = (ring_rule(59, "a", "b"), sided(ring_rule(60, "a", "c")))
        for join, is_kept in JOINS:
            with self.assertRaises(NoFit):
                join(*greats)
            with self.assertRaises(NoFit):
                join(barring(1, *SIXTEEN), barring(2, *SIXTEEN_SIDED))

    def test_each_is_a_refusal(self):
        with self.assertRaises(UseError):
            joined_rule(free(1), free(2))
        with self.assertRaises(UseError):
            either_rule(barring(1, *SIXTEEN), barring(1, "z"))


class Own(unittest.TestCase):
    def test_every_list_is_new(self):
        same = [0, None]
        shared = (1, ["a", "b"], [same, same])
        pairs = ((door(), door()), (door(), free(1)), (lease(), lease()), (free(1), free(1)), (shared, shared),
                 (steps_rule(60, None), steps_rule(60, None)), (barring(1, "a"), barring(1, "b")))
        for join, is_kept in JOINS:
            for one, other in copy.deepcopy(pairs):
                check_own(self, join, one, other)


if __name__ == "__main__":
    unittest.main()
