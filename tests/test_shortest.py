"""Shortest breaches: the least list of places that breaks the rule by itself [2, 3, 6, 31]."""

import itertools
import random
import unittest

from helpers import (
    SIXTEEN, SIXTEEN_SIDED, barring, check_own, door, free, lease, rarely_broken, ring_rule, rows_upto, rules_of, sided,
    steps_rule, way_by,
)
from usewarden.rules import is_rule, room_after
from usewarden.shortest import shortest_breach


def breaks_with_last(rule, row):
    """Whether a row breaks the rule with its last text, and not ahead of it: text by text."""
    room = 0
    for at, text in enumerate(row):
        room = way_by(rule, room, text)
        if room is None:
            return at == len(row) - 1
    return False


def shortest_by_trying(rule, row):
    """The shortest breach, by trying all lists of places, the lesser ones first; or None."""
    if not breaks_with_last(rule, row):
        return None
    last = len(row) - 1
    for count in range(last + 1):
        # Lists of places come in their order.
        for places in itertools.combinations(range(last), count):
            if breaks_with_last(rule, [row[place] for place in (*places, last)]):
                return [*places, last]
    raise AssertionError("the whole row is such a list")


def fewest_by_turns(rule, row):
    """How many places a shortest breach of the row has: by the earliest place, of so many, at which each room is come to."""
    earliest = {0: -1}
    count = 1
    while not any(way_by(rule, room, row[-1]) is None for room in earliest):
        behind = {}
        for room, place in earliest.items():
            for text in rule[1]:
                way = way_by(rule, room, text)
                if way is not None and text in row[place + 1:-1]:
                    behind[way] = min(row.index(text, place + 1), behind.get(way, len(row)))
        earliest = behind
        count += 1
    return count


# Each a rule, a row, and what is told.
KNOWN = [
    (door(), [], None),
    (door(), ["open"], None),
    (door(), ["open", "read", "close", "open"], None),
    (door(), ["read"], [0]),
    (door(), ["read", "read"], None),
    (door(), ["open", "close", "read"], [2]),
    (door(), ["open", "open"], [0, 1]),
    (door(), ["open", "read", "read", "open"], [0, 3]),
    # Of the lists as short the one with the least places.
    (door(), ["open", "close", "open", "read", "open"], [0, 4]),
    # Texts that aren't the rule's are left out; as the last one they break nothing.
    (door(), ["look", "open", "look", "open"], [1, 3]),
    (door(), ["open", "look"], None),
    (free(1), ["a", "b"], None),
    (free(1), [], None),
    (barring(1, "x"), ["a", "b", "x"], [2]),
    (barring(1, "x"), ["x", "x"], None),
    (barring(1, "x"), ["x", "a"], None),
    (steps_rule(3, None), ["go", "a", "go", "a", "go"], [0, 2, 4]),
    (lease(), ["1.open", "2.read", "1.close", "2.read"], [3]),
    (lease(), ["1.open", "2.read", "1.open"], None),
    (sided(steps_rule(2, None)), ["1.go", "2.go", "1.go", "2.go"], [1, 3]),
    # Shorter goes ahead of less: the way by `a` has more places than that by `b`, which comes later.
    ((1, ["a", "b", "x"], [[1, 2, 0], [2, 1, 1], [2, 2, None]]), ["a", "a", "b", "x"], [2, 3]),
    ((1, ["a", "b", "x"], [[1, 2, 0], [2, 1, 1], [2, 2, None]]), ["a", "a", "x"], [0, 1, 2]),
    # The first place that goes on to as short a list, though another word is needed for it behind.
    ((1, ["a", "b", "c", "x"], [[1, 2, 0, 0], [1, 1, 3, 1], [3, 2, 2, 2], [3, 3, 3, None]]), ["b", "a", "c", "x"], [0, 1, 3]),
    ((1, ["a", "b", "c", "x"], [[1, 2, 0, 0], [1, 1, 3, 1], [3, 2, 2, 2], [3, 3, 3, None]]), ["a", "b", "c", "a", "x"], [0, 2, 4]),
    # What is left out must not be what would break it ahead: the chosen texts keep it up to the last.
    ((1, ["a", "b"], [[1, None], [2, 1], [2, None]]), ["a", "b", "a", "b"], [3]),
    ((1, ["a", "b", "x"], [[1, 0, 0], [1, 2, None], [None, 2, None]]), ["a", "b", "x"], [0, 2]),
    ((1, ["a", "b", "x"], [[1, None, 0], [1, 2, 1], [1, 2, None]]), ["a", "b", "b", "x"], [0, 1, 3]),
]


class Shortest(unittest.TestCase):
    def check(self, rule, row):
        told = shortest_breach(rule, row)
        self.assertEqual(told, shortest_by_trying(rule, row), (rule, row))
        return told

    def check_form(self, rule, row, told):
        """Whether what is told is a breach of the row, be it the shortest or not."""
        self.assertEqual(told[-1], len(row) - 1)
        self.assertTrue(all(one < other for one, other in itertools.pairwise(told)))
        self.assertTrue(breaks_with_last(rule, [row[place] for place in told]))

    def test_known(self):
        for rule, row, told in KNOWN:
            self.assertTrue(is_rule(rule))
            self.assertEqual(self.check(rule, row), told, (rule, row))

    def test_kinds(self):
        told = shortest_breach(door(), ["open", "look", "open"])
        self.assertIs(told.__class__, list)
        self.assertEqual([place.__class__ for place in told], [int, int])

    def test_all_rows_of_small_rules(self):
        found = {True: 0, False: 0}
        for rule in rules_of(1, ["a", "b"], 2):
            for row in rows_upto(["a", "b", "c"], 4):
                found[self.check(rule, row) is None] += 1
        for rule in rules_of(2, ["1.a", "2.a"], 2):
            for row in rows_upto(["1.a", "2.a"], 5):
                found[self.check(rule, row) is None] += 1
        self.assertGreater(min(found.values()), 1000)

    def test_by_chance(self):
        chance = random.Random(3101)
        lengths = {}
        for turn in range(3000):
            sides = chance.choice([1, 2])
            rule = rarely_broken(chance, sides, ["a", "b", "c", "d"][:chance.randrange(1, 5)], chance.randrange(1, 8))
            texts = rule[1] + ["z" if sides == 1 else "2.z"]
            row = [chance.choice(texts) for place in range(chance.randrange(12))]
            # Cut off where it breaks, mostly, so that it breaks with its last text.
            while room_after(rule, row[:-1]) is None and chance.random() < 0.95:
                row.pop()
            told = self.check(rule, row)
            if told is not None:
                lengths[len(told)] = lengths.get(len(told), 0) + 1
        self.assertGreater(len(lengths), 3)
        self.assertGreater(sum(lengths.values()), 500)

    def test_longer_ways_by_chance(self):
        # Each room has but few ways on, and the last one alone is broken: so shortest breaches are long, and many are as long.
        chance = random.Random(3102)
        lengths = {}
        for turn in range(600):
            count = chance.randrange(2, 7)
            rooms = [[min(at + chance.choice([0, 0, 1, 1, 2]), count - 1) for word in "abc"] + [at] for at in range(count)]
            rooms[-1][-1] = None
            rule = (1, ["a", "b", "c", "x"], rooms)
            row = [chance.choice("abc") for place in range(12)] + ["x"]
            told = self.check(rule, row)
            if told is not None:
                lengths[len(told)] = lengths.get(len(told), 0) + 1
        self.assertGreater(len(lengths), 4)

    def test_rules_of_sixty_rooms(self):
        for rule, word in ((steps_rule(60, None), "go"), (sided(steps_rule(60, None)), "2.go")):
            self.assertEqual(shortest_breach(rule, [word] * 60), list(range(60)))
            self.assertIsNone(shortest_breach(rule, [word] * 59))
            self.assertIsNone(shortest_breach(rule, [word] * 61))
            other = "look" if rule[0] == 1 else "1.look"
            self.assertEqual(shortest_breach(rule, [other, word] * 60), list(range(1, 120, 2)))
        ring = ring_rule(60, "turn", "stop", 59)
        for rounds in (0, 1, 5):
            row = ["turn"] * (60 * rounds + 59) + ["stop"]
            self.assertEqual(shortest_breach(ring, row), [*range(59), len(row) - 1])

    def test_rules_of_sixteen_words(self):
        chance = random.Random(3103)
        for sides, words in ((1, SIXTEEN), (2, SIXTEEN_SIDED)):
            for turn in range(40):
                rooms = [[None if chance.random() < 0.05 else chance.randrange(60) for word in words] for room in range(60)]
                rule = (sides, words, rooms)
                row = [chance.choice(words) for place in range(14)]
                while room_after(rule, row[:-1]) is None:
                    row.pop()
                self.check(rule, row)

    def test_very_long_rows(self):
        chance = random.Random(3104)
        words = list("abcdefghijklmno") + ["z"]
        rooms = [[chance.randrange(60) for word in words[1:]] + [None if at == 59 else at] for at in range(60)]
        rule = (1, words, rooms)
        row = [chance.choice(words[:-1]) for place in range(50000)]
        while room_after(rule, row) != 59:
            row.append(chance.choice(words[:-1]))
        row.append("z")
        told = shortest_breach(rule, row)
        self.check_form(rule, row, told)
        self.assertEqual(len(told), fewest_by_turns(rule, row))
        row = ["turn"] * (60 * 1000 + 59) + ["stop"]
        self.assertEqual(shortest_breach(ring_rule(60, "turn", "stop", 59), row), [*range(59), len(row) - 1])
        self.assertIsNone(shortest_breach(ring_rule(60, "turn", "stop", 58), row))
        self.assertIsNone(shortest_breach(free(1), row))

    def test_longer_rows_by_chance(self):
        chance = random.Random(3105)
        tried = 0
        while tried < 30:
            rule = rarely_broken(chance, 1, ["a", "b", "c", "d"], chance.randrange(3, 9))
            row = [chance.choice("abcd") for place in range(60)]
            while room_after(rule, row[:-1]) is None:
                row.pop()
            told = shortest_breach(rule, row)
            if told is not None and len(row) > 12:
                tried += 1
                self.check_form(rule, row, told)
                self.assertEqual(len(told), fewest_by_turns(rule, row))
                if len(told) <= 4:
                    self.check(rule, row)

    def test_what_is_told_is_the_askers_own(self):
        for rule, row, told in KNOWN:
            check_own(self, shortest_breach, rule, row)
        check_own(self, shortest_breach, steps_rule(60, None), ["go"] * 60)


if __name__ == "__main__":
    unittest.main()
