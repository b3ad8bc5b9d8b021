"""Words, rules and rows [2, 5, 6, 7]."""

import copy
import string
import unittest

from helpers import SIXTEEN, SIXTEEN_SIDED, are_apart, door, lease, odd_things, spoil, steps_rule
from usewarden.errors import NoRule
from usewarden.rules import copied_rule, is_rule, is_word, room_after

RULES = {
    "of no words": (1, [], [[]]),
    "of no words, two sides": (2, [], [[]]),
    "of no words, several rooms": (1, [], [[], [], []]),
    "the document's own": door(),
    "of two sides": lease(),
    "a word of one letter": (1, ["a"], [[0]]),
    "a word of eight letters": (1, ["abcdefgh"], [[0]]),
    "a sided word of eight letters": (2, ["2.abcdefgh"], [[None]]),
    "the first side alone": (2, ["1.a", "1.b"], [[0, None]]),
    "one word on both sides": (2, ["1.a", "2.a"], [[0, None]]),
    "sides ahead of letters": (2, ["1.z", "2.a"], [[0, 0]]),
    "a word that begins another": (1, ["a", "aa", "ab", "b"], [[0, 0, 0, 0]]),
    "sixteen words": (1, SIXTEEN, [[0] * 16]),
    "sixteen sided words": (2, SIXTEEN_SIDED, [[None] * 16, [1] * 16]),
    "sixty rooms": steps_rule(60, 0),
    "sixty rooms of no words": (1, [], [[] for at in range(60)]),
    "sixty rooms of sixteen words": (1, SIXTEEN, [[59] * 16 for at in range(60)]),
    "all breaks": (1, ["a"], [[None]]),
    "a room that nothing leads to": (1, ["a"], [[0], [1]]),
}

NO_RULES = {
    "sides of none": (0, [], [[]]),
    "three sides": (3, [], [[]]),
    "sides below nought": (-1, [], [[]]),
    "a truth for one side": (True, [], [[]]),
    "a truth for no sides": (False, [], [[]]),
    "sides of another kind": (1.0, [], [[]]),
    "sides in a text": ("1", [], [[]]),
    "sides of nothing": (None, [], [[]]),
    "seventeen words": (1, SIXTEEN + ["q"], [[0] * 17]),
    "seventeen sided words": (2, SIXTEEN_SIDED + ["2.i"], [[0] * 17]),
    "no rooms": (1, [], []),
    "no rooms for words": (1, ["a"], []),
    "sixty-one rooms": steps_rule(61, 0),
    "sixty-one rooms of no words": (1, [], [[] for at in range(61)]),
    "words that fall": (1, ["b", "a"], [[0, 0]]),
    "words that fall at last": (1, ["a", "c", "b"], [[0, 0, 0]]),
    "a longer word ahead of its beginning": (1, ["aa", "a"], [[0, 0]]),
    "a word twice": (1, ["a", "a"], [[0, 0]]),
    "sided words that fall": (2, ["2.a", "1.z"], [[0, 0]]),
    "a sided word twice": (2, ["1.a", "1.a"], [[0, 0]]),
    "a word of no letters": (1, [""], [[0]]),
    "a word of nine letters": (1, ["abcdefghi"], [[0]]),
    "a great letter": (1, ["Open"], [[0]]),
    "a figure": (1, ["a1"], [[0]]),
    "a number for a word": (1, [1], [[0]]),
    "nothing for a word": (1, [None], [[0]]),
    "a word in a list": (1, [["a"]], [[0]]),
    "bytes for a word": (1, [b"a"], [[0]]),
    "words of unlike kinds": (1, ["a", 2], [[0, 0]]),
    "a side ahead, where there is one": (1, ["1.a"], [[0]]),
    "no side ahead, where there are two": (2, ["a"], [[0]]),
    "one word without its side": (2, ["1.a", "b"], [[0, 0]]),
    "a third side": (2, ["3.a"], [[0]]),
    "a side nought": (2, ["0.a"], [[0]]),
    "a side with no word behind": (2, ["1."], [[0]]),
    "a side with nine letters behind": (2, ["1.abcdefghi"], [[0]]),
    "a side without its point": (2, ["1a"], [[0]]),
    "a side with two points": (2, ["1..a"], [[0]]),
    "two sides ahead": (2, ["1.2.a"], [[0]]),
    "a blank ahead of the side": (2, [" 1.a"], [[0]]),
    "a blank behind the side": (2, ["1. a"], [[0]]),
    "no text for a sided word": (2, [("1.", "a")], [[0]]),
    "a room with too few ways": (1, ["a", "b"], [[0]]),
    "a room with too many ways": (1, ["a"], [[0, 0]]),
    "a later room with too few ways": (1, ["a"], [[0], []]),
    "a later room with too many ways": (1, ["a"], [[0], [0, 0]]),
    "ways with no words": (1, [], [[0]]),
    "a way to a room that isn't there": (1, ["a"], [[1]]),
    "a later way to a room that isn't there": (1, ["a", "b"], [[0, 1], [1, 2]]),
    "a way far off": (1, ["a"], [[10 ** 1000]]),
    "a way below nought": (1, ["a"], [[-1]]),
    "a truth for a way": (1, ["a"], [[True], [0]]),
    "a falsehood for a way": (1, ["a"], [[False]]),
    "a way of another kind": (1, ["a"], [[0.0]]),
    "a way in a text": (1, ["a"], [["0"]]),
    "a way in a list": (1, ["a"], [[[0]]]),
    "the sign for a break": (1, ["a"], [["!"]]),
    "a list for the rule": [1, [], [[]]],
    "a tuple for the words": (1, (), [[]]),
    "a tuple for more words": (1, ("a",), [[0]]),
    "a tuple for the rooms": (1, [], ([],)),
    "a tuple for a room": (1, [], [()]),
    "a tuple for a later room": (1, ["a"], [[0], (0,)]),
    "a text for the words": (1, "a", [[0]]),
    "a dict for the words": (1, {"a": 0}, [[0]]),
    "a dict for the rooms": (1, [], {0: []}),
    "a text for the rooms": (1, [], "a"),
    "a text for a room": (1, ["a"], ["0"]),
    "nothing for the words": (1, None, [[]]),
    "nothing for the rooms": (1, [], None),
    "nothing for a room": (1, [], [None]),
    "two parts": (1, []),
    "four parts": (1, [], [[]], None),
    "a rule within a tuple": ((1, [], [[]]),),
    "a rule's text": "1: ",
}


class Words(unittest.TestCase):
    def test_one_to_eight_letters(self):
        for word in (*string.ascii_lowercase, "ab", "open", "zzzzzzz", "abcdefgh", "zzzzzzzz"):
            self.assertIs(is_word(word), True, word)

    def test_none_and_nine_letters(self):
        for text in ("", "abcdefghi", "zzzzzzzzz", "a" * 100000):
            self.assertIs(is_word(text), False, text[:20])

    def test_other_signs(self):
        others = [chr(number) for number in range(0x300) if chr(number) not in string.ascii_lowercase]
        others += ["\u0430", "\u03b1", "\uff41", "\u24d0", "\u2170", "\ud800", "\U0001d41a"]
        for sign in others:
            for text in (sign, sign + "a", "a" + sign, "ab" + sign + "cd"):
                self.assertIs(is_word(text), False, ascii(text))

    def test_sided_words_are_no_words(self):
        for text in ("1.a", "2.open", "a b", " a", "a ", "a\n", "\na"):
            self.assertIs(is_word(text), False, text)

    def test_things_that_are_no_text(self):
        for thing in odd_things():
            self.assertIs(is_word(thing), False)


class WhatARuleIs(unittest.TestCase):
    def test_rules(self):
        for name, rule in RULES.items():
            self.assertIs(is_rule(rule), True, name)

    def test_what_is_none(self):
        for name, thing in NO_RULES.items():
            self.assertIs(is_rule(thing), False, name)

    def test_anything_else(self):
        for thing in odd_things():
            self.assertIs(is_rule(thing), False)

    def test_anything_else_in_each_place(self):
        for thing in odd_things():
            is_one = isinstance(thing, int) and thing is not True and thing == 1
            is_nought = isinstance(thing, int) and thing is not False and thing == 0
            is_room = isinstance(thing, list) and len(thing) == 1 and thing[0] is None
            self.assertIs(is_rule((thing, ["a"], [[0]])), is_one)
            self.assertIs(is_rule((1, ["a"], [thing])), is_room)
            self.assertIs(is_rule((1, ["a"], [[thing]])), thing is None or is_nought)
            self.assertIs(is_rule((1, [thing], [[0]])), False)
            self.assertIs(is_rule((2, [thing], [[0]])), False)
            self.assertIs(is_rule((1, ["a"], thing)), False)
            if not isinstance(thing, list):
                self.assertIs(is_rule((1, thing, [[]])), False)

    def test_the_room_just_there(self):
        for count in (1, 2, 59, 60):
            self.assertIs(is_rule((1, ["a"], [[count - 1]] * count)), True)
            self.assertIs(is_rule((1, ["a"], [[count]] * count)), False)

    def test_nothing_is_changed(self):
        for thing in (*RULES.values(), *NO_RULES.values()):
            before = copy.deepcopy(thing)
            is_rule(thing)
            self.assertEqual(thing, before)


class Copies(unittest.TestCase):
    def test_equal_with_lists_all_new(self):
        for name, rule in RULES.items():
            before = copy.deepcopy(rule)
            made = copied_rule(rule)
            self.assertEqual(made, before, name)
            self.assertEqual(rule, before, name)
            self.assertIs(is_rule(made), True, name)
            self.assertTrue(are_apart(made, copied_rule(rule)), name)
            spoil(made)
            self.assertEqual(rule, before, name)

    def test_what_is_done_later_to_what_was_handed_in(self):
        rule = door()
        made = copied_rule(rule)
        spoil(rule)
        self.assertEqual(made, door())

    def test_one_list_in_several_places(self):
        room = [0, None]
        made = copied_rule((1, ["a", "b"], [room, room]))
        self.assertTrue(are_apart(made))
        made[2][0][0] = 1
        self.assertEqual(made, (1, ["a", "b"], [[1, None], [0, None]]))
        self.assertEqual(room, [0, None])

    def test_what_is_no_rule_is_refused(self):
        for name, thing in NO_RULES.items():
            with self.assertRaises(NoRule, msg=name):
                copied_rule(thing)

    def test_anything_else_is_refused(self):
        for thing in odd_things():
            with self.assertRaises(NoRule):
                copied_rule(thing)


class Rows(unittest.TestCase):
    def test_the_row_of_no_texts(self):
        for name, rule in RULES.items():
            self.assertEqual(room_after(rule, []), 0, name)

    def test_ordinary_rows(self):
        self.assertEqual(room_after(door(), ["open"]), 1)
        self.assertEqual(room_after(door(), ["open", "read", "read"]), 1)
        self.assertEqual(room_after(door(), ["open", "read", "close"]), 0)
        self.assertEqual(room_after(door(), ["open", "close", "open"]), 1)

    def test_rows_that_break(self):
        for row in (["read"], ["close"], ["open", "open"], ["open", "close", "close"]):
            self.assertIsNone(room_after(door(), row), row)

    def test_what_begins_with_a_row_that_breaks(self):
        for more in ([], ["open"], ["open", "read"], ["other"], ["read"] * 50):
            self.assertIsNone(room_after(door(), ["open", "open"] + more), more)

    def test_a_break_at_last(self):
        self.assertEqual(room_after(door(), ["open"] + ["read"] * 500), 1)
        self.assertIsNone(room_after(door(), ["open"] + ["read"] * 500 + ["open"]))

    def test_other_texts_leave_it_in_its_room(self):
        self.assertEqual(room_after(door(), ["end", "lend", "z"]), 0)
        self.assertEqual(room_after(door(), ["a", "open", "b", "opens", "ope"]), 1)
        self.assertIsNone(room_after(door(), ["a", "open", "b", "open"]))
        self.assertEqual(room_after((1, [], [[]]), ["a", "b"]), 0)
        self.assertEqual(room_after((2, [], [[], []]), ["1.a", "2.b"]), 0)

    def test_two_sides(self):
        self.assertIsNone(room_after(lease(), ["2.read"]))
        self.assertEqual(room_after(lease(), ["1.open", "2.read", "1.read", "2.close", "2.open"]), 1)
        self.assertEqual(room_after(lease(), ["1.open", "1.close"]), 0)
        self.assertIsNone(room_after(lease(), ["1.open", "1.close", "2.read"]))

    def test_room_nought_is_no_break(self):
        self.assertEqual(room_after((1, ["a"], [[1], [0]]), ["a", "a"]), 0)
        self.assertEqual(room_after((1, ["a"], [[0]]), ["a"]), 0)

    def test_each_word_has_its_own_way(self):
        rule = (1, SIXTEEN, [list(range(16))] + [[None] * 16 for at in range(15)])
        for at, word in enumerate(SIXTEEN):
            self.assertEqual(room_after(rule, [word]), at)

    def test_long_rows(self):
        ring = steps_rule(60, 0)
        self.assertEqual(room_after(ring, ["go"] * 100007), 100007 % 60)
        self.assertEqual(room_after(ring, ["go", "stay"] * 100007), 100007 % 60)
        path = steps_rule(60, None)
        self.assertEqual(room_after(path, ["go"] * 59), 59)
        self.assertIsNone(room_after(path, ["go"] * 60))

    def test_beyond_the_bounds(self):
        self.assertEqual(room_after(steps_rule(75, None), ["go"] * 74), 74)
        self.assertEqual(room_after((1, SIXTEEN + ["q"], [[0] * 16 + [1], [1] * 17]), ["q"]), 1)

    def test_nothing_is_changed(self):
        for row in (["open", "read", "x"], ["open", "open", "open"], []):
            rule, before = door(), list(row)
            room_after(rule, row)
            self.assertEqual((rule, row), (door(), before))


if __name__ == "__main__":
    unittest.main()
