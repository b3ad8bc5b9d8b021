"""Rules written and read [8]."""

import copy
import random
import unittest

from helpers import are_apart, door, lease, odd_things, random_rule, rules_of, spoil, steps_rule
from usewarden.errors import NoText
from usewarden.rules import is_rule
from usewarden.ruletexts import read_rule, show_rule

DOOR = "1: close! open>1 read!; close>0 open! read>1"

PAIRS = [
    ((1, [], [[]]), "1: "),
    ((2, [], [[]]), "2: "),
    ((1, [], [[], []]), "1: ; "),
    ((2, [], [[], [], []]), "2: ; ; "),
    (door(), DOOR),
    (lease(), "2: 1.close>0 1.open>1 2.read!; 1.close>0 1.open>1 2.read>1"),
    ((1, ["a"], [[0]]), "1: a>0"),
    ((1, ["a"], [[None]]), "1: a!"),
    ((1, ["a"], [[None], [1], [0]]), "1: a!; a>1; a>0"),
    ((2, ["1.abcdefgh", "2.z"], [[None, 0]]), "2: 1.abcdefgh! 2.z>0"),
    ((1, ["a"], [[11]] + [[0]] * 11), "1: a>11" + "; a>0" * 11),
    (steps_rule(60, 0), "1: " + "; ".join(f"go>{at % 60}" for at in range(1, 61))),
    (steps_rule(60, None), "1: " + "; ".join(f"go>{at}" for at in range(1, 60)) + "; go!"),
]

NO_TEXTS = [
    "", " ", ":", "1", "1:", ": ", "1 : ", " 1: ", "1:  ", "1: \n", "\n1: ", "1:\n", "1:\t", "1: ;", "1:; ", "1: ; ;",
    "0: ", "3: ", "12: ", "01: ", "+1: ", "-1: ", "1.0: ", "one: ", "True: ", "None: ", "\u0661: ", "\u00b9: ",
    "1: 1: ", "1: a>0: ", "a>0", "1 a>0", "1:a>0",
    # A nought ahead, other signs in the place of figures, numbers that aren't there.
    "1: a>00", "1: a>01; a>0", "1: a>000", "1: a>-0", "1: a>+0", "1: a>-1", "1: a>", "1: a> 0", "1: a>0 ", "1: a>0x",
    "1: a>0.0", "1: a>0_0", "1: a>1_0" + "; a>0" * 10, "1: a>\u0660", "1: a>\u00b2; a>0; a>0", "1: a>\uff10",
    "1: a>x", "1: a>None", "1: a>!", "1: a>0!", "1: a>0>0", "1: a!0", "1: a!>0", "1: a!!", "1: a>" + "0" * 4000,
    "1: a>" + "9" * 4000, "1: a>" + "9" * 9000,
    # A room that isn't there.
    "1: a>1", "1: a>2; a>0", "1: a>60" + "; a>0" * 59, "1: a>99",
    # A blank too many or too few.
    "1: a>0  b>0", "1: a>0b>0", "1:  a>0", "1: a>0 b>0 ", "1: a>0;a>0", "1: a>0;  a>0", "1: a>0 ; a>0", "1: a>0; a>0 ",
    "1: a>0; ", "1: ; a>0", "1: a>0;", "1: a>0; ; a>0", "1: a>0;; a>0", "1: a >0", "1: a !", "1: a>0\n", "1: a>0\tb>0",
    "1: a>0\u00a0b>0", "1:\u00a0a>0", "1: a>0,b>0", "1: a>0, a>0", "1: a>0\na>0", "1: a>0 ;a>0",
    # Rooms with unlike words.
    "1: a>0; b>0", "1: a>0; a>0 b>0", "1: a>0 b>0; a>0", "1: a>0 b>0; b>0 a>0", "1: a>0; a>0; b>0", "1: a!; b!",
    # Words that aren't the rule's.
    "1: b>0 a>0", "1: a>0 a>0", "1: A>0", "1: >0", "1: !", "1: abcdefghi>0", "1: a1>0", "1: 1.a>0", "2: a>0", "2: 3.a>0",
    "2: 2.a>0 1.a>0", "2: 1.>0", "2: 1.a>0 b>0", "2: 1.1.a>0", "2: 1.abcdefghi>0", "1: a", "1: a b", "1: a; a", "1: 0",
    "1: a=0", "1: a->0", "1: \u00e9>0", "1: (a>0)",
    # Too many words, too many rooms.
    "1: " + " ".join(letter + ">0" for letter in "abcdefghijklmnopq"),
    "1: " + "; ".join("a>0" for at in range(61)),
    "1: " + "; " * 60,
    # Other ways to write one.
    "(1, [], [[]])", repr(door()), DOOR + " ", " " + DOOR, DOOR + "\n", DOOR.upper(), DOOR + "; ", DOOR + ";",
    DOOR.replace("; ", "\n"), DOOR + DOOR, "\ufeff" + DOOR, DOOR + "\x00",
]


class Written(unittest.TestCase):
    def test_pairs(self):
        for rule, text in PAIRS:
            self.assertEqual(show_rule(rule), text)

    def test_unlike_rules_have_unlike_texts(self):
        seen = {}
        for sides, words in ((1, []), (2, []), (1, ["a"]), (2, ["1.a"]), (2, ["2.a"]), (1, ["a", "b"]), (1, ["ab"])):
            for count in (1, 2):
                for rule in rules_of(sides, words, count):
                    text = show_rule(rule)
                    self.assertNotIn(text, seen)
                    seen[text] = rule
        self.assertEqual(len(seen), 2 * (1 + 1) + 4 * (2 + 9) + (4 + 81))

    def test_nothing_is_changed(self):
        for rule, text in PAIRS:
            before = copy.deepcopy(rule)
            show_rule(rule)
            self.assertEqual(rule, before)

    def test_beyond_the_bounds(self):
        self.assertEqual(show_rule((1, ["a"], [[101]] * 102)), "1: " + "; ".join(["a>101"] * 102))


class Read(unittest.TestCase):
    def test_pairs(self):
        for rule, text in PAIRS:
            self.assertEqual(read_rule(text), rule)

    def test_kinds_of_what_is_read(self):
        for rule, text in PAIRS:
            self.assertIs(is_rule(read_rule(text)), True, text)

    def test_what_is_written_is_read_to_an_equal_rule(self):
        for sides, words in ((1, []), (2, []), (1, ["a"]), (2, ["1.a", "2.a"]), (1, ["a", "b"])):
            for count in (1, 2):
                for rule in rules_of(sides, words, count):
                    self.assertEqual(read_rule(show_rule(rule)), rule)

    def test_greater_rules_are_read_again(self):
        chance = random.Random(8)
        sided = [side + word for side in ("1.", "2.") for word in ("a", "abcdefgh", "b", "open", "z", "zz", "zzz", "zzzz")]
        for sides, words in ((1, list("abcdefghijklmnop")), (2, sided)):
            for count in (1, 9, 10, 11, 59, 60):
                rule = random_rule(chance, sides, words, count)
                self.assertIs(is_rule(rule), True)
                self.assertEqual(read_rule(show_rule(rule)), rule)

    def test_all_else_is_refused(self):
        for text in NO_TEXTS:
            with self.assertRaises(NoText, msg=ascii(text[:80])):
                read_rule(text)

    def test_one_sign_changed_is_another_rule_or_none(self):
        signs = " :;>!.012abz\n"
        for text in (DOOR, "1: ", "2: 1.a>1 2.b!; 1.a! 2.b>0", "1: ; "):
            changed = [text[:at] + text[at + 1:] for at in range(len(text))]
            changed += [text[:at] + sign + text[at:] for at in range(len(text) + 1) for sign in signs]
            changed += [text[:at] + sign + text[at + 1:] for at in range(len(text)) for sign in signs]
            for other in changed:
                try:
                    rule = read_rule(other)
                except NoText:
                    continue
                self.assertIs(is_rule(rule), True, other)
                self.assertEqual(show_rule(rule), other)

    def test_things_that_are_no_text(self):
        for thing in (*odd_things(), door(), [DOOR], (DOOR,), DOOR.encode(), 10 ** 5000):
            with self.assertRaises(NoText):
                read_rule(thing)

    def test_what_is_read_is_the_asker_s_own(self):
        for rule, text in PAIRS:
            one = read_rule(text)
            self.assertTrue(are_apart(one, read_rule(text)))
            spoil(one)
            self.assertEqual(read_rule(text), rule)


if __name__ == "__main__":
    unittest.main()
