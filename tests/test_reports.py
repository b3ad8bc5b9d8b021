"""Reports: from texts to the text of a guarded run [2, 8, 14, 15, 30, 31, 32, 33]."""

import copy
import itertools
import random
import unittest

from helpers import (
    Sour, barring, door, free, lease, odd_things, random_inputs, ring_rule, ruled_programs, sixty_lines, steps_rule,
    told_by_lines,
)
from test_guards import BLAMED, guard_or_none, named, stairs
from test_lists import NO_TEXTS as NO_RULES, PAIRS as RULES
from test_plainruns import RUNS
from test_progtexts import NO_TEXTS as NO_PROGRAMS
from test_shortest import shortest_by_trying
from test_watched import WATCHED
from usewarden.errors import NoText, TooGreat, UseError
from usewarden.lists import read_rules, show_rules
from usewarden.progtexts import read_program, show_program
from usewarden.reports import report
from usewarden.shortest import shortest_breach

MORE = 10 ** 61 - 1
DOOR = "door 1: close! open>1 read!; close>0 open! read>1"

# Each a text of rules, a text of a program, inputs, and the report's lines.
KNOWN = [
    ("", "", [], ["kept"]),
    ("", "", [1, -1], ["kept"]),
    (DOOR, "", [], ["kept"]),
    ("", "open a", [], ["0 0 open 0", "1 0 end 0", "kept"]),
    (DOOR, "open a\ndo read a", [], ["0 0 open 0", "1 0 read 0", "2 0 end 0", "kept"]),
    (DOOR, "open a\ndo close a\ndo read a", [], ["0 0 open 0", "1 0 close 0", "broken 2 door 0: read"]),
    (DOOR, "open a\ndo read a\ndo open a", [], ["0 0 open 0", "1 0 read 0", "broken 2 door 0: open open"]),
    ("no 1: open!", "open a", [], ["broken 0 no 0: open"]),
    ("no 1: end!", "open b\nopen a", [], ["0 0 open 0", "1 1 open 0", "broken 2 no 0: end"]),
    ("no 1: end>1 x>1; end! x>1", "open a\nopen b\ndo x b", [], [
        "0 0 open 0", "1 1 open 0", "2 1 x 0", "3 0 end 0", "broken 3 no 1: x end"]),
    # Ties, with both handles and their sides.
    ("", "open a\nopen b\ntie b a", [], ["0 0 open 0", "1 1 open 0", "2 1 0", "3 0 end 0", "3 1 end 0", "kept"]),
    ("two 2: 1.x>1 2.y>0; 1.x>1 2.y!", "open a\nopen b\ntie b a\ndo x b\ndo z a\ndo y a", [], [
        "0 0 open 0", "1 1 open 0", "2 1 0", "3 1 x 0", "4 0 z 0", "broken 5 two 1 0: 1.x 2.y"]),
    # Numbers: the last input, whatever it is.
    ("", "open a\nwhile -5\ndo x a\ndone", [-4, MORE, -MORE, 7], [
        "0 0 open 0", "2 0 x -4", f"2 0 x {MORE}", f"4 0 end {-MORE}", "kept"]),
    ("few 1: x>1; x>2; x!", "open a\nwhile 0\ndo x a\ndo y a\ndone", [1, 2, 3, 4], [
        "0 0 open 0", "2 0 x 1", "3 0 y 1", "2 0 x 2", "3 0 y 2", "broken 2 few 0: x x x"]),
    # The shortest breach by the rule that is named, of all that are broken.
    ("long 1: a>1 x>0; a>1 x!\nshort 1: x!", "open h\ndo a h\ndo x h", [], ["0 0 open 0", "1 0 a 0", "broken 2 long 0: a x"]),
    ("short 1: x!\nlong 1: a>1 x>0; a>1 x!", "open h\ndo a h\ndo x h", [], ["0 0 open 0", "1 0 a 0", "broken 2 short 0: x"]),
    ("b 2: 2.x!\na 1: x!", "open h\nopen k\ntie h k\ndo x k", [], [
        "0 0 open 0", "1 1 open 0", "2 0 1", "broken 3 b 0 1: 2.x"]),
]


def report_by_words(rules, program, inputs):
    """The report of a list of rules and a program, by the run and the shortest breach as the document words them."""
    told = told_by_lines(program, rules, inputs)
    stopped = isinstance(told, tuple)
    lines = [" ".join(map(str, entry)) for entry in (told[4] if stopped else told)]
    if not stopped:
        return "\n".join([*lines, "kept"])
    name, line, handles, row = told[:4]
    shortest = shortest_by_trying if len(row) < 15 else shortest_breach
    places = shortest(dict(rules)[name], row)
    words = " ".join(row[place] for place in places)
    return "\n".join([*lines, f"broken {line} {name} {' '.join(map(str, handles))}: {words}"])


class Told(unittest.TestCase):
    def check(self, rules, program, inputs):
        told = report(show_rules(rules), show_program(program), inputs)
        self.assertEqual(told, report_by_words(rules, program, inputs), (rules, program, inputs))
        return told

    def test_known(self):
        for rules, program, inputs, lines in KNOWN:
            self.assertEqual(report(rules, program, inputs), "\n".join(lines), (rules, program))
            self.check(read_rules(rules), read_program(program), inputs)

    def test_kind(self):
        self.assertIs(report("", "", []).__class__, str)

    def test_runs_that_are_known(self):
        for lines, rules, inputs, told in WATCHED:
            self.check(rules, read_program("\n".join(lines)), inputs)
        for lines, rules, inputs, fields in BLAMED:
            self.check(rules, read_program("\n".join(lines)), inputs)
        for program, inputs, log in RUNS:
            self.check([], program, inputs)
            self.check([("door", door()), ("lease", lease())], program, inputs)

    def test_by_chance(self):
        chance = random.Random(3301)
        found = {True: 0, False: 0}
        words = {}
        for program, rules in ruled_programs(chance, 500, 4):
            if guard_or_none(program, rules) is None:
                continue
            for turn in range(2):
                told = self.check(rules, program, random_inputs(chance, program, 9))
                found[told.endswith("kept")] += 1
                count = len(told.split("\n")[-1].partition(": ")[2].split())
                words[count] = words.get(count, 0) + 1
        self.assertGreater(min(found.values()), 200, found)
        self.assertGreater(len(words), 3, words)

    def test_a_program_as_great_as_one_may_be(self):
        program = sixty_lines()
        for rules in ([], [("door", door())], [("nor", barring(1, "read")), ("now", barring(2, "2.write"))],
                      [("few", (1, ["write"], [[1], [2], [3], [4], [None]])), ("tied", lease())]):
            for inputs in ([], [2] * 5, [2, 2, 2, -1, 2, 2, -1], [2] * 40, [1, -1, 2, 2, 0] * 9):
                self.check(rules, program, inputs)

    def test_long_runs(self):
        program = "open a\nwhile 0\ndo turn a\ndone\ndo stop a"
        rules = [("ring", ring_rule(60, "turn", "stop", 59))]
        told = report(show_rules(rules), program, [1] * (60 * 300 + 59)).split("\n")
        self.assertEqual(len(told), 1 + 60 * 300 + 59 + 1)
        self.assertEqual(told[-1], "broken 4 ring 0: " + "turn " * 59 + "stop")
        told = report(show_rules(rules), program, [1] * (60 * 300)).split("\n")
        self.assertEqual((len(told), told[-2:]), (1 + 60 * 300 + 3, ["5 0 end 1", "kept"]))

    def test_what_is_handed_in_stays_as_it_was(self):
        for rules, program, inputs, lines in KNOWN:
            before = copy.deepcopy(inputs)
            one = report(rules, program, inputs)
            self.assertEqual(inputs, before)
            self.assertEqual(report(rules, program, inputs), one)
            inputs = list(inputs)
            told = report(rules, program, inputs)
            inputs.clear()
            self.assertEqual(told, one)


class Refused(unittest.TestCase):
    def refusal(self, *handed):
        """What a report is refused with."""
        with self.assertRaises(UseError) as caught:
            report(*handed)
        return caught.exception

    def check_no_text(self, *handed):
        self.assertIs(self.refusal(*handed).__class__, NoText)

    def test_rules(self):
        for text in NO_RULES:
            self.check_no_text(text, "", [])
        for thing in odd_things():
            self.check_no_text(thing, "open a", [1])

    def test_programs(self):
        for text in NO_PROGRAMS:
            self.check_no_text("", text, [])
        for thing in odd_things():
            self.check_no_text(DOOR, thing, [1])

    def test_inputs(self):
        for thing in odd_things():
            # The list of nothing is one of inputs.
            if not isinstance(thing, list) or len(thing) > 0:
                self.check_no_text(DOOR, "open a", thing)
        for part in odd_things():
            if part.__class__ is not int:
                self.check_no_text(DOOR, "open a", [part])
                self.check_no_text("", "", [0, part, 1])

    def test_truths_and_tuples_are_no_inputs(self):
        for inputs in ([True], [1, False], [[1]], [(1,)], ["1"], [1.0], [None], (), (1,), "1", "", {}, {1: 1}, {1}, range(3), None):
            self.check_no_text("", "", inputs)

    def test_inputs_of_sixty_one_figures_and_of_one_more(self):
        for number in (MORE, -MORE, 10 ** 60, -10 ** 60):
            self.assertEqual(report("", "open a\nif 0\nelse\nfi", [number]), f"0 0 open 0\n4 0 end {number}\nkept")
        for number in (MORE + 1, -MORE - 1, 10 ** 62, 10 ** 5000, -10 ** 5000):
            for inputs in ([number], [0, 0, number], [number, 0]):
                self.check_no_text("", "", inputs)

    def test_inputs_that_no_step_takes_are_looked_at_too(self):
        self.check_no_text("", "open a", [1] * 1000 + [None])
        self.assertEqual(report("", "", [1] * 1000), "kept")

    def test_too_great(self):
        great = show_rules(named(*stairs(60)))
        for program in ("", "open a", show_program(sixty_lines())):
            self.assertIs(self.refusal(great, program, []).__class__, TooGreat)
        self.assertEqual(report(show_rules(named(*stairs(59))), "", []), "kept")
        # Ahead of any breach.
        rules = show_rules([("noopen", barring(1, "open")), *named(*stairs(60))])
        self.assertIs(self.refusal(rules, "open a", []).__class__, TooGreat)

    def test_in_their_order(self):
        def words(*handed):
            error = self.refusal(*handed)
            return error.__class__, str(error)

        of_rules = words("x", "", [])
        of_program = words("", "x", [])
        of_inputs = words("", "", None)
        self.assertEqual(len({of_rules, of_program, of_inputs}), 3)
        great = show_rules(named(*stairs(60)))
        for rules, program, inputs in itertools.product(("x", great, ""), ("x", ""), (None, [])):
            if rules == "x":
                self.assertEqual(words(rules, program, inputs), of_rules)
            elif program == "x":
                self.assertEqual(words(rules, program, inputs), of_program)
            elif inputs is None:
                self.assertEqual(words(rules, program, inputs), of_inputs)
            elif rules == great:
                self.assertIs(words(rules, program, inputs)[0], TooGreat)
        # What comes later isn't touched.
        self.assertEqual(words("x", Sour(), Sour()), of_rules)
        self.assertEqual(words("", "x", Sour()), of_program)

    def test_each_text_of_a_list(self):
        for rules, text in RULES:
            if guard_or_none([], rules) is not None:
                self.assertEqual(report(text, "", []), "kept")
        self.assertEqual(report("a 1: ", "", []), "kept")
        self.assertEqual(report(show_rules([("a", free(1)), ("b", steps_rule(60, None))]), "", []), "kept")


if __name__ == "__main__":
    unittest.main()
