"""The least rule of a rule [3, 9]."""

import copy
import random
import unittest

from helpers import check_own, door, lease, random_rule, rows_upto, rules_of, steps_rule
from usewarden.leastrules import least_rule
from usewarden.rules import is_rule, room_after


def broken_rows(rule, rows):
    """Of each row whether it breaks the rule."""
    return tuple(room_after(rule, row) is None for row in rows)


def first_rooms(rule, rows):
    """The rooms in the order in which rows, the lesser first, lead to them."""
    met = []
    for row in rows:
        room = room_after(rule, row)
        if room is not None and room not in met:
            met.append(room)
    return met


def dressed(rule, chance):
    """An alike rule: rooms twice, in another order, some that nothing leads to, and a word that does nothing."""
    count = len(rule[2])
    numbers = list(range(1, 2 * count))
    chance.shuffle(numbers)
    # Room 0 stays where it is, for a rule begins there; its twin is put somewhere like all others.
    twins = {0: [0, numbers[-1]]}
    for at in range(1, count):
        twins[at] = numbers[2 * at - 2:2 * at]
    rooms = [None] * (2 * count)
    for at, room in enumerate(rule[2]):
        for number in twins[at]:
            rooms[number] = [None if way is None else chance.choice(twins[way]) for way in room]
    lost = 2 * count
    rooms.append([chance.choice([None, *range(lost + 1)]) for word in rule[1]])
    idle = "idle" if rule[0] == 1 else "1.idle"
    words = sorted(rule[1] + [idle])
    place = words.index(idle)
    for number, room in enumerate(rooms):
        room.insert(place, None if number == lost else number)
        if number != lost and chance.random() < 0.5:
            room[place] = chance.choice([pair for pair in twins.values() if number in pair][0])
    return (rule[0], words, rooms)


class Told(unittest.TestCase):
    def check(self, rule, least):
        before = copy.deepcopy(rule)
        self.assertEqual(least_rule(rule), least)
        self.assertEqual(rule, before)
        self.assertEqual(least_rule(least), least)

    def test_least_ones_stay(self):
        for rule in (door(), lease(), (1, [], [[]]), (2, [], [[]]), (1, ["a"], [[None]])):
            self.check(rule, rule)

    def test_no_words(self):
        self.check((1, [], [[], [], []]), (1, [], [[]]))
        self.check((2, [], [[] for at in range(60)]), (2, [], [[]]))

    def test_rooms_that_nothing_leads_to(self):
        self.check((1, ["a"], [[0], [None]]), (1, [], [[]]))
        self.check((1, ["a", "b"], [[2, None], [0, 0], [None, 2]]), (1, ["a", "b"], [[1, None], [None, 1]]))
        self.check((1, ["a"], [[2], [3], [None], [1]]), (1, ["a"], [[1], [None]]))

    def test_rooms_that_are_alike(self):
        self.check((1, ["a", "b"], [[1, None], [0, None]]), (1, ["b"], [[None]]))
        self.check((1, ["a", "b"], [[1, 2], [None, 1], [None, 2]]), (1, ["a", "b"], [[1, 1], [None, 1]]))
        self.check((1, ["a"], [[1], [2], [3], [0]]), (1, [], [[]]))
        self.check((1, ["a", "b"], [[1, None], [2, 1], [3, None], [0, 3]]), (1, ["a", "b"], [[1, None], [0, 1]]))

    def test_alike_at_once_but_not_later(self):
        path = (1, ["a", "b"], [[1, 0], [2, 1], [None, 2]])
        self.check(path, (1, ["a"], [[1], [2], [None]]))

    def test_words_that_do_nothing(self):
        self.check((1, ["a", "b", "c"], [[0, None, 0]]), (1, ["b"], [[None]]))
        self.check((1, ["a", "b"], [[0, 1], [1, None]]), (1, ["b"], [[1], [None]]))
        self.check((2, ["1.a", "2.a"], [[0, None]]), (2, ["2.a"], [[None]]))

    def test_words_that_do_something_where_nothing_leads(self):
        self.check((1, ["a", "b"], [[None, 0], [0, None]]), (1, ["a"], [[None]]))
        self.check((1, ["a", "b"], [[None, 0], [0, 0]]), (1, ["a"], [[None]]))

    def test_words_that_lead_and_never_break(self):
        self.check((1, ["a", "b"], [[1, None], [1, 1]]), (1, ["a", "b"], [[1, None], [1, 1]]))
        self.check((1, ["a", "b"], [[1, 0], [1, 1]]), (1, [], [[]]))

    def test_a_word_that_breaks_in_but_one_room(self):
        self.check((1, ["a"], [[1], [None]]), (1, ["a"], [[1], [None]]))

    def test_all_breaks(self):
        self.check((1, ["a", "b"], [[None, None], [0, 1]]), (1, ["a", "b"], [[None, None]]))

    def test_sixty_rooms(self):
        path = steps_rule(60, None)
        self.check(path, path)
        self.check(steps_rule(60, 0), (1, [], [[]]))
        self.check(steps_rule(60, 59), (1, [], [[]]))
        back = (1, ["go"], [[59]] + [[None]] + [[at - 1] for at in range(2, 60)])
        self.check(back, path)
        ring = (1, ["a", "b"], [[(at + 1) % 60, None if at % 3 == 0 else at] for at in range(60)])
        self.check(ring, (1, ["a", "b"], [[1, None], [2, 1], [0, 2]]))
        whole = (1, ["a", "b"], [[(at + 1) % 60, None if at == 0 else at] for at in range(60)])
        self.check(whole, whole)
        shifted = (1, ["a", "b"], [[(at + 7) % 60, None if at == 0 else at] for at in range(60)])
        self.check(shifted, whole)

    def test_sixteen_words(self):
        words = list("abcdefghijklmnop")
        tree = (1, words, [[at % 3 for at in range(16)], [None] * 16, [None] * 15 + [2]])
        self.check(tree, tree)
        self.check((1, words, [[0] * 15 + [None]]), (1, ["p"], [[None]]))

    def test_beyond_the_bounds(self):
        path = steps_rule(90, None)
        self.check(path, path)


class Numbers(unittest.TestCase):
    def test_the_lesser_word_first(self):
        rule = (1, ["a", "b"], [[2, 1], [None, 1], [2, None]])
        self.assertEqual(least_rule(rule), (1, ["a", "b"], [[1, 2], [1, None], [None, 2]]))

    def test_the_shorter_row_first(self):
        # `z` is the shorter row, though `a`, `a` stands ahead of it by its signs.
        rule = (1, ["a", "z"], [[1, 3], [2, 1], [None, 2], [3, None]])
        self.assertEqual(least_rule(rule), (1, ["a", "z"], [[1, 2], [3, 1], [2, None], [None, 3]]))

    def test_of_equally_long_rows_the_first_place_tells(self):
        # `b`, `a` and `a`, `b` lead to unlike rooms: `a`, `b` is less.
        rule = (1, ["a", "b"], [[4, 3], [None, 1], [2, None], [1, 3], [4, 2]])
        self.assertEqual(first_rooms(rule, rows_upto("ab", 3)), [0, 4, 3, 2, 1])
        least = least_rule(rule)
        self.assertEqual(least[2], [[1, 2], [1, 3], [4, 2], [3, None], [None, 4]])

    def test_sides_tell_ahead_of_letters(self):
        rule = (2, ["1.z", "2.a"], [[2, 1], [None, 1], [2, None]])
        self.assertEqual(least_rule(rule), (2, ["1.z", "2.a"], [[1, 2], [1, None], [None, 2]]))

    def test_in_the_order_of_the_least_rows(self):
        rows = rows_upto("abc", 6)
        chance = random.Random(3)
        for turn in range(40):
            least = least_rule(random_rule(chance, 1, ["a", "b", "c"], 6))
            self.assertEqual(first_rooms(least, rows), list(range(len(least[2]))))


class Alike(unittest.TestCase):
    def test_every_small_rule(self):
        # Of rules of three rooms at most, six texts are enough to tell any two apart.
        rows = rows_upto("ab", 6)
        least_of = {}
        fewest = {}
        for words in ([], ["a"], ["b"], ["a", "b"]):
            for count in (1, 2, 3):
                for rule in rules_of(1, words, count):
                    mark = broken_rows(rule, rows)
                    least = least_rule(rule)
                    self.assertEqual(least_of.setdefault(mark, least), least)
                    fewest[mark] = min(fewest.get(mark, count), count)
        self.assertGreater(len(least_of), 500)
        seen = []
        for mark, least in least_of.items():
            self.assertIs(is_rule(least), True)
            self.assertEqual(broken_rows(least, rows), mark)
            self.assertEqual(len(least[2]), fewest[mark])
            self.assertEqual(first_rooms(least, rows), list(range(fewest[mark])))
            self.assertEqual(least_rule(least), least)
            for place in range(len(least[1])):
                self.assertTrue(any(room[place] != number for number, room in enumerate(least[2])))
            seen.append(repr(least))
        self.assertEqual(len(set(seen)), len(seen))

    def test_sides_stay(self):
        for rule in rules_of(2, ["1.a", "2.a"], 2):
            plain = least_rule((1, ["a", "b"], rule[2]))
            names = {"a": "1.a", "b": "2.a"}
            self.assertEqual(least_rule(rule), (2, [names[word] for word in plain[1]], plain[2]))

    def test_alike_rules_in_another_dress(self):
        chance = random.Random(9)
        for turn in range(150):
            sides = 1 + turn % 2
            words = ["a", "j", "z"] if sides == 1 else ["1.a", "1.z", "2.a"]
            rule = random_rule(chance, sides, words, 1 + turn % 29)
            other = dressed(rule, chance)
            self.assertIs(is_rule(other), True)
            self.assertNotEqual(other, rule)
            self.assertEqual(least_rule(other), least_rule(rule))
            self.assertEqual(least_rule(least_rule(rule)), least_rule(rule))

    def test_unlike_rules(self):
        for count in range(1, 60):
            self.assertNotEqual(least_rule(steps_rule(count, None)), least_rule(steps_rule(count + 1, None)))
        self.assertNotEqual(least_rule((1, [], [[]])), least_rule((2, [], [[]])))
        self.assertNotEqual(least_rule((1, ["a"], [[None]])), least_rule((1, ["b"], [[None]])))
        self.assertNotEqual(least_rule((2, ["1.a"], [[None]])), least_rule((2, ["2.a"], [[None]])))

    def test_the_greatest_rules(self):
        chance = random.Random(60)
        words = list("abcdefghijklmnop")
        for turn in range(5):
            rule = random_rule(chance, 1, words, 60)
            least = least_rule(rule)
            rows = [[chance.choice(words + ["z"]) for at in range(chance.randrange(12))] for row in range(2000)]
            self.assertEqual(broken_rows(least, rows), broken_rows(rule, rows))


class Own(unittest.TestCase):
    def test_every_list_is_new(self):
        same = [0, None]
        for rule in (door(), lease(), (1, [], [[]]), steps_rule(60, None), (1, ["a", "b"], [same, same])):
            check_own(self, least_rule, rule)


if __name__ == "__main__":
    unittest.main()
