"""Rules laid together, and the blames [2, 3, 6, 12, 29]."""

import itertools
import random
import unittest

from helpers import (
    SIXTEEN, SIXTEEN_MORE, SIXTEEN_SIDED, barring, check_own, door, free, lease, random_rule, rarely_broken, ring_rule, rows_upto,
    rules_of, sided, steps_rule, way_by,
)
from usewarden.errors import NoFit, TooGreat, UseError
from usewarden.joins import joined_rule
from usewarden.laid import laid_rules
from usewarden.leastrules import least_rule
from usewarden.rules import is_rule, room_after


def named(*rules):
    """The rules as a list, each with a name."""
    return [("rule" + "abcdefghij"[place], rule) for place, rule in enumerate(rules)]


def laid_by_rows(rules, most=1000):
    """Rules laid together by the document's words, or None of more than most rooms: rows gone through, the lesser ones first.

    A row is gone on with just where it leads to a list of rooms that none ahead of it leads to.
    """
    words = sorted({word for rule in rules for word in rule[1]})
    numbers = {}
    kept = []
    waiting = [[]]
    for row in waiting:
        there = tuple(room_after(rule, row) for rule in rules)
        if None not in there and there not in numbers:
            numbers[there] = len(numbers)
            kept.append(row)
            waiting.extend(row + [word] for word in words)
        if len(numbers) > most:
            return None
    rooms, blames = [], []
    for row in kept:
        behind = [[room_after(rule, row + [word]) for rule in rules] for word in words]
        rooms.append([numbers.get(tuple(there)) for there in behind])
        blames.append([there.index(None) if None in there else None for there in behind])
    return (rules[0][0], words, rooms), blames


def outcome(rules):
    """What laying the rules together comes to: what is told, or the refusal's class."""
    try:
        return laid_rules(rules)
    except UseError as error:
        return error.__class__


def counted(count, word):
    """Nothing breaks it; it counts the word up to so many rooms."""
    return (1, [word], [[min(at + 1, count - 1)] for at in range(count)])


def ring(count, turn):
    """A ring of so many rooms, by the word turn; nothing breaks it."""
    return (1 if "." not in turn else 2, [turn], [[(at + 1) % count] for at in range(count)])


class Laid(unittest.TestCase):
    def check(self, *rules):
        """Whether what is told is a rule with blames, as the rows tell it; and whether its least rule is that of all joined."""
        told = laid_rules(named(*rules))
        self.assertIs(told.__class__, tuple)
        self.assertEqual(len(told), 2)
        rule, blames = told
        self.assertTrue(is_rule(rule))
        self.assertEqual(told, laid_by_rows(rules), rules)
        for room, blamed in zip(rule[2], blames, strict=True):
            for way, blame in zip(room, blamed, strict=True):
                # Blamed is just what is broken.
                self.assertIs(blame is None, way is not None)
        return rule, blames

    def check_joined(self, *rules):
        """Whether the least rule of what is told is that of all joined one by one, which none of the joins refuses."""
        rule = self.check(*rules)[0]
        joined = least_rule(rules[0])
        for other in rules[1:]:
            joined = joined_rule(joined, other)
        self.assertEqual(least_rule(rule), joined)

    def test_written_out(self):
        once = (1, ["open"], [[1], [None]])
        self.assertEqual(laid_rules(named(door(), once)), (
            (1, ["close", "open", "read"], [[None, 1, None], [2, None, 1], [None, None, None]]),
            [[0, None, 0], [None, 0, None], [0, 1, 0]]))
        self.assertEqual(laid_rules(named(once, door())), (
            (1, ["close", "open", "read"], [[None, 1, None], [2, None, 1], [None, None, None]]),
            [[1, None, 1], [None, 0, None], [1, 0, 1]]))
        self.assertEqual(laid_rules(named(barring(1, "a", "b"), barring(1, "b", "c"), barring(1, "a", "d"))), (
            (1, ["a", "b", "c", "d"], [[None, None, None, None]]), [[0, 0, 1, 2]]))
        self.assertEqual(laid_rules(named(lease(), barring(2, "2.close"))), (
            (2, ["1.close", "1.open", "2.close", "2.read"], [[0, 1, None, None], [0, 1, None, 1]]),
            [[None, None, 1, 0], [None, None, 1, None]]))

    def test_without_words(self):
        for sides in (1, 2):
            for count in (1, 2, 8):
                self.assertEqual(laid_rules(named(*[free(sides)] * count)), ((sides, [], [[]]), [[]]))
        # To its other rooms no row leads.
        self.assertEqual(laid_rules(named((1, [], [[], [], []]))), ((1, [], [[]]), [[]]))
        self.assertEqual(laid_rules(named(free(1), door(), free(1))), (door(), [[1, None, 1], [None, 1, None]]))

    def test_one_rule(self):
        self.assertEqual(laid_rules([("door", door())]), (door(), [[0, None, 0], [None, 0, None]]))
        self.assertEqual(laid_rules([("lease", lease())]), (lease(), [[None, None, 0], [None, None, None]]))
        # Rooms that no row leads to are left out, the others numbered by their least rows.
        rule = (1, ["a", "b"], [[3, 2], [0, 0], [2, None], [4, 0], [None, 2]])
        self.assertEqual(laid_rules([("x", rule)]), (
            (1, ["a", "b"], [[1, 2], [3, 0], [2, None], [None, 2]]), [[None, None], [None, None], [None, 0], [0, None]]))

    def test_it_is_not_made_least(self):
        # Two rooms that are alike, and words that do nothing.
        rule = (1, ["a", "b", "c"], [[1, 0, None], [0, 1, None]])
        self.assertEqual(laid_rules([("x", rule)]), (rule, [[None, None, 0], [None, None, 0]]))
        self.assertEqual(laid_rules(named(ring(2, "a"), ring(3, "a"))), (ring(6, "a"), [[None]] * 6))
        self.assertEqual(least_rule(laid_rules(named(ring(2, "a"), ring(3, "b")))[0]), free(1))

    def test_what_breaks_leads_nowhere(self):
        # Behind `a` the first would lead on, but the second is broken.
        one = (1, ["a", "b"], [[1, 0], [2, 1], [2, None]])
        self.assertEqual(laid_rules(named(one, barring(1, "a"))), ((1, ["a", "b"], [[None, 0]]), [[1, None]]))
        self.assertEqual(laid_rules(named(barring(1, "a"), one)), ((1, ["a", "b"], [[None, 0]]), [[0, None]]))

    def test_the_first_one_that_is_broken_is_blamed(self):
        rules = [steps_rule(count, None) for count in (5, 3, 4, 3, 6)]
        self.assertEqual(laid_rules(named(*rules)), (steps_rule(3, None), [[None], [None], [1]]))
        self.assertEqual(laid_rules(named(*[door()] * 8)), (door(), [[0, None, 0], [None, 0, None]]))
        # By its place, not by its name.
        rules = [("z", barring(1, "x")), ("a", barring(1, "x", "y")), ("m", barring(1, "w", "y"))]
        self.assertEqual(laid_rules(rules), ((1, ["w", "x", "y"], [[None, None, None]]), [[2, 0, 1]]))

    def test_the_order_of_the_rooms(self):
        # `z` alone is a lesser row than `a` after `a`; `a`, `z` than `z`, `a`.
        rule = self.check((1, ["a"], [[1], [2], [None]]), (1, ["z"], [[1], [2], [None]]))[0]
        rows = [[], ["a"], ["z"], ["a", "a"], ["a", "z"], ["z", "z"], ["a", "a", "z"], ["a", "z", "z"], ["a", "a", "z", "z"]]
        self.assertEqual([room_after(rule, row) for row in rows], list(range(9)))

    def test_all_small_rules(self):
        ones = list(rules_of(1, ["a"], 2)) + list(rules_of(1, ["a", "b"], 1)) + [free(1)]
        for count in (1, 2, 3):
            for rules in itertools.product(ones, repeat=count):
                self.check_joined(*rules)
        others = list(rules_of(1, ["a", "b"], 2))
        chance = random.Random(2901)
        for turn in range(1000):
            self.check_joined(*chance.choices(others, k=chance.randrange(1, 5)))

    def test_by_all_short_rows(self):
        # A row keeps what is told where it keeps all; where its last text breaks that, the first one is blamed that it breaks.
        chance = random.Random(2902)
        for turn in range(60):
            sides = chance.choice([1, 2])
            texts = ["a", "b", "c"] if sides == 1 else ["1.a", "2.a", "2.b"]
            rules = [random_rule(chance, sides, sorted(chance.sample(texts, 2)), chance.randrange(1, 4)) for place in range(3)]
            rule, blames = self.check(*rules)
            least = {}
            for row in rows_upto(texts, 5):
                rooms = [room_after(one, row) for one in rules]
                room = room_after(rule, row)
                self.assertEqual(room is None, None in rooms)
                if room is not None:
                    # The same room just for the same list of rooms, numbered as they are first met.
                    self.assertEqual(least.setdefault(tuple(rooms), len(least)), room)
                elif row and room_after(rule, row[:-1]) is not None and row[-1] in rule[1]:
                    self.assertEqual(blames[room_after(rule, row[:-1])][rule[1].index(row[-1])], rooms.index(None))

    def test_by_chance(self):
        chance = random.Random(2903)
        laid = refused = 0
        for turn in range(600):
            sides = chance.choice([1, 2])
            count = chance.randrange(1, 9)
            words = ["a", "b", "c", "d", "e"][:chance.randrange(1, 6)]
            rules = [rarely_broken(chance, sides, words, chance.randrange(1, 6)) for place in range(count)]
            told = outcome(named(*rules))
            self.assertEqual(told, laid_by_rows(rules, 60) or TooGreat)
            if told == TooGreat:
                refused += 1
                continue
            laid += 1
            self.check(*rules)
            try:
                self.check_joined(*rules)
            except TooGreat:
                # Some of them may come to more than all of them.
                self.assertGreater(count, 2)
        self.assertGreater(laid, 200)
        self.assertGreater(refused, 50)

    def test_just_sixty_rooms(self):
        for rules, count in (
                ([steps_rule(60, None)], 60), ([steps_rule(60, 59), steps_rule(60, 0)], 119),
                ([ring(60, "a"), ring(30, "a")], 60),
                ([ring(4, "a"), ring(15, "a")], 60), ([ring(4, "a"), ring(15, "b")], 60), ([ring(4, "a"), ring(16, "b")], 64),
                ([ring(2, "a"), ring(2, "b"), ring(3, "c"), ring(5, "d")], 60), ([ring(3, "a"), ring(4, "b"), ring(5, "c")], 60),
                ([ring(61, "a")], 61), ([ring(60, "a"), ring(7, "a")], 420), ([counted(60, "a"), counted(60, "a")], 60),
                ([ring(2, "1.a"), ring(30, "2.a")], 60), ([ring(2, "1.a"), ring(31, "2.a")], 62),
                ([*[ring(2, letter) for letter in "abcde"], *[free(1)] * 3], 32),
                ([ring(2, letter) for letter in "abcdefgh"], 256),
                ([counted(59, "a"), (1, ["b"], [[1], [None]])], 118), ([counted(30, "a"), (1, ["b"], [[1], [None]])], 60)):
            if count > 60:
                self.assertEqual(outcome(named(*rules)), TooGreat, rules)
                # Put the other way round, too.
                self.assertEqual(outcome(named(*reversed(rules))), TooGreat)
            else:
                self.assertEqual(len(self.check(*rules)[0][2]), count)
                self.assertEqual(len(self.check(*reversed(rules))[0][2]), count)

    def test_one_room_more(self):
        # `b` leads to one more room than there are by `a`, from the last one on.
        for count, rooms in ((59, 60), (60, 61)):
            one = (1, ["a", "b"], [[at + 1, at] for at in range(count - 1)] + [[count - 1, count - 1]])
            other = (1, ["a", "b"], [[1, 0]] + [[min(at + 1, count - 1), at] for at in range(1, count - 1)] + [[count - 1, 0]])
            # Only then the two stand in unlike rooms; the next `a` breaks.
            last = (1, ["a", "b"], [[at + 1, None] for at in range(count - 1)] + [[None, count], [None, None]])
            rules = [one, other, last]
            self.assertEqual(len(laid_by_rows(rules)[0][2]), rooms)
            self.assertEqual(outcome(named(*rules)), TooGreat if rooms > 60 else laid_by_rows(rules))

    def test_more_rooms_by_some_than_by_all(self):
        # The first two alone come to 900 rooms, but the last one lets rows go on to few of them.
        rules = [ring(30, "a"), ring(30, "b"), (1, ["a", "b"], [[1, 1], [2, 2], [None, None]])]
        self.assertEqual(outcome(named(*rules[:2])), TooGreat)
        for chosen in itertools.permutations(rules):
            self.assertEqual(len(self.check(*chosen)[0][2]), 6)

    def test_just_sixteen_words(self):
        for one, other, count in (
                (SIXTEEN, SIXTEEN, 16), (SIXTEEN, SIXTEEN_MORE, 26), (SIXTEEN[:8], SIXTEEN[8:], 16), (SIXTEEN, ["p"], 16),
                (SIXTEEN, ["z"], 17), (SIXTEEN, [], 16), (SIXTEEN[:8], SIXTEEN[7:], 16), (SIXTEEN[:9], SIXTEEN_MORE[-8:], 17)):
            rules = [(1, list(one), [[0] * len(one)]), (1, list(other), [[0] * len(other)])]
            for chosen in (rules, rules[::-1], [*rules, free(1)]):
                if count > 16:
                    # Words that do nothing count as well.
                    self.assertEqual(outcome(named(*chosen)), TooGreat)
                else:
                    self.assertEqual(len(self.check(*chosen)[0][1]), count)
        sixteen = (2, SIXTEEN_SIDED, [[None] * 16])
        self.assertEqual(laid_rules(named(sixteen, sixteen)), (sixteen, [[0] * 16]))
        self.assertEqual(outcome(named(sixteen, barring(2, "2.z"))), TooGreat)
        self.assertEqual(outcome([("x", (1, list("abcdefghijklmnopq"), [[0] * 17]))]), TooGreat)
        parts = [barring(1, *SIXTEEN[2 * place:2 * place + 2]) for place in range(8)]
        self.assertEqual(laid_rules(named(*parts)), (barring(1, *SIXTEEN), [[place // 2 for place in range(16)]]))
        self.assertEqual(outcome(named(*parts[:7], barring(1, "x", "y", "z"))), TooGreat)

    def test_great_rules(self):
        chance = random.Random(2904)
        for words, sides in ((SIXTEEN, 1), (SIXTEEN_SIDED, 2)):
            rule = random_rule(chance, sides, words, 60)
            self.assertEqual(self.check(rule), self.check(rule, free(sides)))
            self.assertEqual(self.check(*[rule] * 8), self.check(rule))
            # Very many lists of rooms: it is refused without going through all of them.
            rings = [(sides, list(words), [[chance.randrange(60) for word in words] for room in range(60)]) for turn in range(8)]
            self.assertEqual(outcome(named(*rings)), TooGreat)

    def test_sixty_rooms_by_eight_rules(self):
        rules = [ring_rule(60, "a", "b", where) for where in (0, 7, 13, 13, 20, 30, 59, 0)]
        rule, blames = self.check(*rules)
        self.assertEqual([at for at in range(60) if rule[2][at][1] is None], [0, 7, 13, 20, 30, 59])
        self.assertEqual([blames[at][1] for at in (0, 7, 13, 20, 30, 59)], [0, 1, 2, 4, 5, 6])
        self.check_joined(*rules)
        self.check_joined(*[sided(one) for one in rules])

    def test_unlike_sides(self):
        for rules in (
                [door(), lease()], [lease(), door()], [door(), door(), lease()], [lease(), lease(), door(), lease()],
                [free(1), free(2)], [free(2), free(1)], [*[free(1)] * 7, free(2)],
                # Too great as well.
                [(1, SIXTEEN, [[0] * 16]), (2, SIXTEEN_SIDED, [[0] * 16])], [ring(60, "a"), ring(59, "b"), ring(7, "2.a")],
                [(1, SIXTEEN, [[0] * 16]), barring(1, "x", "y", "z"), free(2)], [ring(61, "a"), free(2)]):
            self.assertEqual(outcome(named(*rules)), NoFit)
            with self.assertRaises(NoFit):
                laid_rules(named(*rules))

    def test_other_texts_stay(self):
        # A word of one rule leaves the others in their rooms.
        rule, blames = self.check(door(), (1, ["look"], [[1], [None]]))
        for row in rows_upto(["close", "look", "open"], 4):
            rooms = [0, 0]
            for text in row:
                rooms = [way_by(door(), rooms[0], text), way_by((1, ["look"], [[1], [None]]), rooms[1], text)]
            self.assertEqual(room_after(rule, row) is None, None in rooms)

    def test_what_is_told_is_the_askers_own(self):
        for rules in (
                [door()], [lease()], [free(1)], [door(), door()], [door(), free(1), barring(1, "x")],
                [lease(), barring(2, "2.x")],
                [ring(4, "a"), ring(15, "b")], [(1, SIXTEEN, [[None] * 16])] * 8, [steps_rule(60, None)] * 2):
            check_own(self, laid_rules, named(*rules))
            # No two lists within what is told are one.
            told = laid_rules(named(*rules))
            for part in (told[0][2], told[1]):
                self.assertEqual(len({id(room) for room in part}), len(part))


if __name__ == "__main__":
    unittest.main()
