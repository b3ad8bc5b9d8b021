"""Lists of rules written and read [2, 5, 8, 12, 32]."""

import copy
import random
import re
import unittest

from helpers import (
    SIXTEEN, SIXTEEN_SIDED, are_apart, barring, door, free, lease, odd_things, random_rule, rules_by_chance, spoil, steps_rule,
)
from test_ruletexts import DOOR, NO_TEXTS as NO_RULES, PAIRS as RULES
from usewarden.errors import NoText, UseError
from usewarden.lists import read_rules, show_rules
from usewarden.rules import is_rule, is_word

EIGHT = ["a", "b", "c", "d", "e", "f", "g", "abcdefgh"]

# Each a list of rules, and its text.
PAIRS = [
    ([], ""),
    ([("door", door())], "door " + DOOR),
    ([("a", free(1))], "a 1: "),
    ([("a", free(1)), ("b", free(2))], "a 1: \nb 2: "),
    ([("b", free(2)), ("a", (1, [], [[], []]))], "b 2: \na 1: ; "),
    ([("open", barring(1, "open")), ("end", barring(2, "1.end", "2.end"))], "open 1: open!\nend 2: 1.end! 2.end!"),
    ([("abcdefgh", door()), ("a", lease()), ("z", door())],
     "abcdefgh " + DOOR + "\na 2: 1.close>0 1.open>1 2.read!; 1.close>0 1.open>1 2.read>1\nz " + DOOR),
    ([(name, free(1)) for name in EIGHT], "\n".join(name + " 1: " for name in EIGHT)),
    ([(name, steps_rule(60, None)) for name in EIGHT],
     "\n".join(name + " 1: " + "; ".join(f"go>{at}" for at in range(1, 60)) + "; go!" for name in EIGHT)),
]

DOORS = "door " + DOOR + "\nnoend 1: end!"

NO_TEXTS = [
    # No name, no rule, or a name that is no word.
    " ", "door", "door ", " door", DOOR, " " + DOOR, "1: ", "door:" + DOOR, "door:  1: ", "Door " + DOOR, "DOOR " + DOOR,
    "d1 " + DOOR, "abcdefghi " + DOOR, "1.door " + DOOR, "d\u00f6r " + DOOR, "\u0430 1: ", "a-b " + DOOR, "a_b " + DOOR,
    "'a' 1: ", "a, 1: ", "1 1: ", "a: 1: ", "- 1: ", "\ufeffa 1: ",
    # Blanks too many or too few, or of another kind.
    "door  " + DOOR, " door " + DOOR, "door" + DOOR, "door\t" + DOOR, "door\u00a0" + DOOR, "door " + DOOR + " ", "a 1:", "a 1:  ",
    "a b 1: ", "a\n1: ", "a \n1: ", "a 1: \n b 1: ", "a 1:  \nb 1: ",
    # Line ends too many or too few, or of another kind.
    "\n", "\n\n", DOORS + "\n", "\n" + DOORS, DOORS.replace("\n", "\n\n"), DOORS.replace("\n", ""), DOORS.replace("\n", " "),
    DOORS.replace("\n", "\r\n"), DOORS.replace("\n", "\r"), DOORS.replace("\n", "; "), DOORS.replace("\n", "\x0b"),
    DOORS.replace("\n", "\u2028"), DOORS.replace("\n", "\x85"), DOORS.replace("\n", "\x0c"), DOORS + "\n ", DOORS + "\x00",
    "a 1: \n\nb 1: ", "a 1: \nb 1: \n",
    # Two names alike.
    "a 1: \na 1: ", "a 1: \na 2: ", "a 1: \nb 1: \na 1: x!", "door " + DOOR + "\ndoor " + DOOR, "a 1: x!\nb 1: \nc 1: \nb 2: ",
    # More than eight.
    "\n".join(name + " 1: " for name in [*EIGHT, "h"]), "\n".join(name + " 1: " for name in "abcdefghijklmnopqrstuvwxyz"),
    "\n".join(["a 1: "] * 9),
    # One line that is none among others.
    "a 1: \nb\nc 1: ", "a 1: \nb 3: ", "a 1: \nb 1: x", "b 1: x>1\na 1: ", "a 1: \n1: ", "a 1: \nb 2: x!", "a 1: x!; y!\nb 1: ",
    # Other ways to write one.
    repr(PAIRS[1][0]), "[]", "None", "0", DOORS.upper(), "# " + DOORS, DOORS + DOORS, DOORS + "\n" + DOORS,
]

WAY = r"(?:[12]\.)?[a-z]{1,8}(?:>(?:0|[1-9][0-9]?)|!)"
LINE = re.compile(rf"([a-z]{{1,8}}) ([12]): ((?:{WAY}(?: {WAY})*|)(?:; (?:{WAY}(?: {WAY})*|))*)")


def rule_by_words(sides, text):
    """The rule of so many sides whose rooms are written so, or None: by the document's words."""
    way = r"([^>!]+)(?:>(\d+)|!)"
    ways = [[re.fullmatch(way, part).groups() for part in room.split(" ") if part] for room in text.split("; ")]
    words = [word for word, way in ways[0]]
    rooms = [[None if way is None else int(way) for word, way in room] for room in ways]
    of_sides = all(("." in word) == (sides == 2) for word in words)
    alike = all([word for word, way in room] == words for room in ways)
    rising = words == sorted(set(words)) and len(words) <= 16
    there = all(way is None or way < len(rooms) for room in rooms for way in room) and len(rooms) <= 60
    return (sides, words, rooms) if of_sides and alike and rising and there else None


def rules_by_words(text):
    """The list of rules that is written so, or None: by the document's words, line by line."""
    rules = []
    for line in text.split("\n") if text else []:
        match = LINE.fullmatch(line)
        rule = match and rule_by_words(int(match[2]), match[3])
        if not rule:
            return None
        rules.append((match[1], rule))
    names = {name for name, rule in rules}
    return rules if len(rules) <= 8 and len(names) == len(rules) else None


def read_or_none(text):
    """The list of rules that is read from the text, or None where it is refused."""
    try:
        return read_rules(text)
    except NoText:
        return None


class Written(unittest.TestCase):
    def test_pairs(self):
        for rules, text in PAIRS:
            before = copy.deepcopy(rules)
            self.assertEqual(show_rules(rules), text)
            self.assertEqual(rules, before)

    def test_unlike_lists_have_unlike_texts(self):
        chance = random.Random(3201)
        seen = {}
        for turn in range(1000):
            chosen = [chance.choice([door(), lease(), free(1), free(2), barring(1, "x")]) for place in range(chance.randrange(4))]
            rules = [(chance.choice("abc") * 2 + "xyz"[place], rule) for place, rule in enumerate(chosen)]
            self.assertEqual(seen.setdefault(show_rules(rules), rules), rules)
        self.assertGreater(len(seen), 400)

    def test_what_is_done_later_to_a_list_that_was_written(self):
        rules = [("door", door()), ("lease", lease())]
        text = show_rules(rules)
        spoil(rules)
        self.assertEqual(text, show_rules([("door", door()), ("lease", lease())]))


class Read(unittest.TestCase):
    def test_pairs(self):
        for rules, text in PAIRS:
            self.assertEqual(read_rules(text), rules)
            self.assertEqual(rules_by_words(text), rules)

    def test_kinds(self):
        for rules, text in PAIRS:
            read = read_rules(text)
            self.assertIs(read.__class__, list)
            for named in read:
                self.assertEqual((named.__class__, len(named)), (tuple, 2))
                self.assertTrue(is_word(named[0]) and is_rule(named[1]))

    def test_each_text_of_a_rule(self):
        for rule, text in RULES:
            self.assertEqual(read_rules("a " + text), [("a", rule)])
            self.assertEqual(read_rules("b 1: \na " + text + "\nc 2: "), [("b", free(1)), ("a", rule), ("c", free(2))])

    def test_what_is_written_is_read_to_an_equal_list(self):
        chance = random.Random(3202)
        counts = set()
        for turn in range(600):
            rules = rules_by_chance(chance, ["open", "do", "back", "z", "lend", "end"], 8)
            chance.shuffle(rules)
            counts.add(len(rules))
            self.assertEqual(read_rules(show_rules(rules)), rules)
        self.assertEqual(counts, set(range(9)))

    def test_rules_as_great_as_may_be(self):
        chance = random.Random(3203)
        rules = [(name, random_rule(chance, sides, words, 60)) for name, (sides, words) in zip(
            EIGHT, [(1, SIXTEEN), (2, SIXTEEN_SIDED)] * 4)]
        self.assertEqual(read_rules(show_rules(rules)), rules)

    def test_eight_and_nine(self):
        names = "abcdefghijkl"
        for count in range(13):
            text = "\n".join(name + " 1: " for name in names[:count])
            self.assertEqual(read_or_none(text) is not None, count <= 8)

    def test_all_else_is_refused(self):
        for text in NO_TEXTS:
            self.assertIsNone(rules_by_words(text), ascii(text))
            with self.assertRaises(NoText, msg=ascii(text[:80])):
                read_rules(text)

    def test_texts_of_no_rule(self):
        for rule in NO_RULES:
            for text in ("a " + rule, "a 1: \nb " + rule, "a " + rule + "\nb 1: "):
                # Of some a line end makes two lines that are right each.
                self.assertEqual(read_or_none(text), rules_by_words(text), ascii(text[:80]))
        self.assertTrue(all(read_or_none("a " + rule) is None for rule in NO_RULES))

    def test_one_sign_changed(self):
        signs = " :;>!.0126abz\nA\t"
        read = refused = 0
        eight = "\n".join(name + " 1: " for name in EIGHT)
        for text in (DOORS, "a 1: \nb 2: ", "a 2: 1.a>1 2.b!; 1.a! 2.b>0\nb 1: ; ", eight, ""):
            changed = [text[:at] + text[at + 1:] for at in range(len(text))]
            changed += [text[:at] + sign + text[at:] for at in range(len(text) + 1) for sign in signs]
            changed += [text[:at] + sign + text[at + 1:] for at in range(len(text)) for sign in signs]
            for other in changed:
                told = read_or_none(other)
                self.assertEqual(told, rules_by_words(other), ascii(other))
                read += told is not None
                refused += told is None
                if told is not None:
                    self.assertEqual(show_rules(told), other)
        self.assertGreater(min(read, refused), 200)

    def test_lines_put_elsewhere(self):
        chance = random.Random(3204)
        lines = ["a 1: ", "b 2: ", "c 1: x!", "door " + DOOR, "a 2: ", "", "1: ", "e"]
        found = {True: 0, False: 0}
        for turn in range(3000):
            text = "\n".join(chance.choice(lines[:chance.choice([4, 5, 8])]) for place in range(chance.randrange(5)))
            told = read_or_none(text)
            self.assertEqual(told, rules_by_words(text), ascii(text))
            found[told is None] += 1
        self.assertGreater(min(found.values()), 500)

    def test_very_long_texts(self):
        for text in ("a 1: \n" * 200000, "\n" * 1000000, "a" * 1000000, "a " * 300000, "a 1: " + "; " * 300000,
                     "a 1: x>" + "1" * 1000000, "a 1: " + "x" * 1000000 + "!", "a 1: " + "x! " * 300000):
            with self.assertRaises(NoText):
                read_rules(text)

    def test_things_that_are_no_text(self):
        for thing in (*odd_things(), door(), [], [("door", door())], [DOORS], (DOORS,), DOORS.encode(), 10 ** 5000):
            with self.assertRaises(NoText):
                read_rules(thing)

    def test_it_is_a_refusal(self):
        with self.assertRaises(UseError):
            read_rules("x")

    def test_what_is_read_is_the_askers_own(self):
        for rules, text in PAIRS:
            one = read_rules(text)
            self.assertTrue(are_apart(one, read_rules(text)))
            spoil(one)
            self.assertEqual(read_rules(text), rules)


if __name__ == "__main__":
    unittest.main()
