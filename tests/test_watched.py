"""Watched runs of codes and turned codes [2, 15, 16, 17, 18, 19, 20]."""

import copy
import random
import unittest

from helpers import (
    SIXTEEN, SIXTEEN_SIDED, barring, breach_by_rows, check_own, door, fields_of, free, lease, lists_within, log_by_lines,
    outcome_by_log, random_inputs, random_steps, ring_rule, rules_by_chance, sixty_lines, spoil, steps_rule, told_by,
)
from test_coderuns import BY_ROWS
from test_plainruns import RUNS, small_inputs, small_programs, takes_inputs
from usewarden.breaches import breach_in
from usewarden.codes import code_of, turned_code
from usewarden.coderuns import run_code
from usewarden.errors import Breach, UseError
from usewarden.plainruns import run_plain
from usewarden.progtexts import read_program
from usewarden.programs import is_program, lines_of
from usewarden.watched import run_watched

MORE = 10 ** 61 - 1


def outcome(code, rules, inputs):
    """What a watched run tells: its log, or the fields of its refusal."""
    return told_by(run_watched, code, rules, inputs)


# A handle that was opened must be closed ahead of its end.
CLOSED = (1, ["close", "end", "open"], [[0, 0, 1], [0, None, 1]])
# No handle is lent twice at once.
LENT = (1, ["back", "lend"], [[None, 1], [0, None]])
# The first of two tied ones must not end ahead of the second.
LASTS = (2, ["1.end", "2.end"], [[None, 1], [1, 1]])

# Each the lines of a program, rules, inputs, and what is told: the log, or the fields of the refusal.
WATCHED = [
    ([], [], [], []),
    ([], [("noend", barring(1, "end"))], [1], []),
    (["open a"], [], [], [(0, 0, "open", 0), (1, 0, "end", 0)]),
    (["open a"], [("door", door())], [], [(0, 0, "open", 0), (1, 0, "end", 0)]),
    # An `open` that isn't done: of the handle that would be opened.
    (["open a"], [("noopen", barring(1, "open"))], [], ("noopen", 0, [0], ["open"], [])),
    (["open a", "do open a"], [("door", door())], [], ("door", 1, [0], ["open", "open"], [(0, 0, "open", 0)])),
    (["open a", "open a"], [("opens", (1, ["open"], [[0]])), ("noopen", barring(1, "open"))], [], (
        "noopen", 0, [0], ["open"], [])),
    (["open a", "lend a b", "open c", "back"], [("tied", barring(2, "1.open")), ("lent", (1, ["lend"], [[None]]))], [], (
        "lent", 1, [0], ["open", "lend"], [(0, 0, "open", 0)])),
    # A deed, of the handle that is held then.
    (["open a", "open b", "do close b", "copy c b", "do look a", "do read c"], [("door", door())], [], (
        "door", 5, [1], ["open", "close", "read"],
        [(0, 0, "open", 0), (1, 1, "open", 0), (2, 1, "close", 0), (4, 0, "look", 0)])),
    (["do read a", "open a", "drop a", "do close a", "do close a"], [("door", door())], [], [
        (1, 0, "open", 0), (5, 0, "end", 0)]),
    # The first deed that breaks a rule, whichever it is; of rules broken by one deed the first.
    (["open a", "do x a", "do y a"], [("y", barring(1, "y")), ("x", barring(1, "x"))], [], (
        "x", 1, [0], ["open", "x"], [(0, 0, "open", 0)])),
    (["open a", "do x a"], [("free", free(1)), ("two", barring(1, "x")), ("one", barring(1, "x"))], [], (
        "two", 1, [0], ["open", "x"], [(0, 0, "open", 0)])),
    # Lent, lent again, given back.
    (["open a", "lend a b", "lend b c", "back", "back"], [("lent", LENT)], [], (
        "lent", 2, [0], ["open", "lend", "lend"], [(0, 0, "open", 0), (1, 0, "lend", 0)])),
    (["open a", "lend a b", "drop a", "do back b", "open b", "back"], [("lent", LENT)], [], (
        "lent", 5, [0], ["open", "lend", "back", "back"],
        [(0, 0, "open", 0), (1, 0, "lend", 0), (3, 0, "back", 0), (4, 1, "open", 0)])),
    # The end: handles end in their order, and those ahead of the one that breaks it have ended.
    (["open a", "open b", "do close a"], [("closed", CLOSED)], [], (
        "closed", 3, [1], ["open", "end"],
        [(0, 0, "open", 0), (1, 1, "open", 0), (2, 0, "close", 0), (3, 0, "end", 0)])),
    (["open a", "open b", "do close b"], [("closed", CLOSED)], [], (
        "closed", 3, [0], ["open", "end"], [(0, 0, "open", 0), (1, 1, "open", 0), (2, 1, "close", 0)])),
    (["open a", "do end a"], [("once", (1, ["end"], [[1], [None]]))], [], (
        "once", 2, [0], ["open", "end", "end"], [(0, 0, "open", 0), (1, 0, "end", 0)])),
    # Ties: behind their row, on each side, twice.
    (["open a", "open b", "tie a b", "do read b"], [("lease", lease())], [], (
        "lease", 3, [0, 1], ["2.read"], [(0, 0, "open", 0), (1, 1, "open", 0), (2, 0, 1)])),
    (["open a", "open b", "do read b", "tie a b", "do open a", "do read b", "do close a", "tie b a", "do read b"],
     [("door", (1, ["shut"], [[None]])), ("lease", lease())], [], (
        "lease", 8, [0, 1], ["1.open", "2.read", "1.close", "2.read"],
        [(0, 0, "open", 0), (1, 1, "open", 0), (2, 1, "read", 0), (3, 0, 1), (4, 0, "open", 0), (5, 1, "read", 0),
         (6, 0, "close", 0), (7, 1, 0)])),
    (["open a", "open b", "tie b a", "tie a b", "tie a b"], [("lasts", LASTS)], [], (
        "lasts", 5, [0, 1], ["1.end"], [(0, 0, "open", 0), (1, 1, "open", 0), (2, 1, 0), (3, 0, 1), (4, 0, 1)])),
    (["open a", "open b", "tie b a"], [("lasts", LASTS)], [], [
        (0, 0, "open", 0), (1, 1, "open", 0), (2, 1, 0), (3, 0, "end", 0), (3, 1, "end", 0)]),
    (["open a", "open b", "tie b a"], [("last", barring(2, "1.end"))], [], (
        "last", 3, [1, 0], ["2.end", "1.end"], [(0, 0, "open", 0), (1, 1, "open", 0), (2, 1, 0), (3, 0, "end", 0)])),
    # A tie of one handle with itself, or with none, watches nothing.
    (["open a", "copy b a", "tie a b", "tie a c", "do x a"], [("tied", barring(2, "1.x", "2.x"))], [], [
        (0, 0, "open", 0), (4, 0, "x", 0), (5, 0, "end", 0)]),
    # A rule of one side and one of two, broken by one deed: the first of the list.
    (["open a", "open b", "tie a b", "do x a"], [("tied", barring(2, "1.x")), ("one", barring(1, "x"))], [], (
        "tied", 3, [0, 1], ["1.x"], [(0, 0, "open", 0), (1, 1, "open", 0), (2, 0, 1)])),
    (["open a", "open b", "tie a b", "do x a"], [("one", barring(1, "x")), ("tied", barring(2, "1.x"))], [], (
        "one", 3, [0], ["open", "x"], [(0, 0, "open", 0), (1, 1, "open", 0), (2, 0, 1)])),
    # In a round of a while: the inputs taken by then are in the log.
    (["open a", "while 0", "do go a", "done"], [("few", steps_rule(3, None))], [5, 6, 7, 0], (
        "few", 2, [0], ["open", "go", "go", "go"], [(0, 0, "open", 0), (2, 0, "go", 5), (2, 0, "go", 6)])),
    (["open a", "while 0", "do go a", "done"], [("few", steps_rule(3, None))], [5, 6], [
        (0, 0, "open", 0), (2, 0, "go", 5), (2, 0, "go", 6), (4, 0, "end", 6)]),
    (["while 0", "open a", "done", "do x a"], [("first", barring(1, "end"))], [MORE, 1, -MORE, 1], (
        "first", 4, [0], ["open", "end"], [(1, 0, "open", MORE), (1, 1, "open", 1), (3, 1, "x", -MORE)])),
    (["open a", "if 0", "do x a", "else", "do y a", "fi"], [("nox", barring(1, "x"))], [0], [
        (0, 0, "open", 0), (4, 0, "y", 0), (6, 0, "end", 0)]),
    (["open a", "if 0", "do x a", "else", "do y a", "fi"], [("nox", barring(1, "x"))], [1], (
        "nox", 2, [0], ["open", "x"], [(0, 0, "open", 0)])),
    # Each round ties another one with the first: the earliest tie that breaks it.
    (["open a", "while 0", "open b", "tie a b", "done", "do x a"], [("tied", barring(2, "1.x"))], [1, 1, 0], (
        "tied", 5, [0, 1], ["1.x"], [(0, 0, "open", 0), (2, 1, "open", 1), (3, 0, 1), (2, 2, "open", 1), (3, 0, 2)])),
    (["open a", "while 0", "open b", "tie a b", "done", "do x b"], [("tied", barring(2, "2.x"))], [1, 1, 0], (
        "tied", 5, [0, 2], ["2.x"], [(0, 0, "open", 0), (2, 1, "open", 1), (3, 0, 1), (2, 2, "open", 1), (3, 0, 2)])),
]


class Watched(unittest.TestCase):
    def check(self, program, rules, inputs, told):
        self.assertEqual(outcome(code_of(program), rules, inputs), told, (program, rules, inputs))
        self.assertEqual(outcome(turned_code(program), rules, inputs), told, (program, rules, inputs))

    def check_by_rows(self, program, rules, inputs):
        """Whether a watched run tells what the breach in the plain run's log tells, found without the package's runs."""
        log = log_by_lines(lines_of(program), inputs)
        breach = breach_by_rows(rules, log)
        self.check(program, rules, inputs, outcome_by_log(breach, log))
        return breach is not None

    def check_by_log(self, program, rules, inputs):
        """The same by the package's own plain run and breach, for longer logs."""
        log = run_plain(program, inputs)
        breach = breach_in(rules, log)
        self.check(program, rules, inputs, outcome_by_log(breach, log))
        return breach

    def test_runs_that_are_known(self):
        for lines, rules, inputs, told in WATCHED:
            self.check(read_program("\n".join(lines)), rules, inputs, told)
            self.check_by_rows(read_program("\n".join(lines)), rules, inputs)

    def test_codes_written_by_hand(self):
        for code, inputs, log in BY_ROWS:
            self.assertEqual(run_watched(code, [], inputs), log)
            self.assertEqual(run_watched(code, [("free", free(1)), ("freed", free(2))], inputs), log)
            rules = [("noend", barring(1, "end"))]
            self.assertEqual(outcome(code, rules, inputs), outcome_by_log(breach_by_rows(rules, log), log))

    def test_without_rules_it_is_the_plain_run(self):
        for program, inputs, log in RUNS:
            self.check(program, [], inputs, log)

    def test_small_programs(self):
        rules = [
            ("door", (1, ["end", "open", "z"], [[0, 1, None], [None, None, 2], [0, 0, 1]])),
            ("tied", (2, ["1.z", "2.end", "2.z"], [[1, 0, None], [1, 1, 0]])),
        ]
        for program in small_programs():
            for inputs in small_inputs() if takes_inputs(program) else [[]]:
                self.check_by_rows(program, rules, inputs)
                self.check_by_rows(program, rules[1:], inputs)

    def test_programs_by_chance(self):
        chance = random.Random(2001)
        found = []
        for turn in range(1200):
            names = ["a", "b", "c", "d"][:chance.randrange(1, 5)]
            ahead = [("open", chance.choice(names)) for place in range(chance.randrange(3))]
            program = ahead + random_steps(chance, names, 3, 4)
            rules = rules_by_chance(chance, ["open", "do", "back", "end", "z", "lend"], 8)
            for again in range(2):
                found.append(self.check_by_rows(program, rules, random_inputs(chance, program, 9)))
        self.assertGreater(found.count(True), 400)
        self.assertGreater(found.count(False), 400)

    def test_ties_in_rounds_by_chance(self):
        chance = random.Random(2002)
        found = []
        for turn in range(600):
            inner = [("tie", *chance.sample("abc", 2)) for place in range(2)] + [
                ("do", chance.choice("xyz"), chance.choice("abc")) for place in range(3)] + [("open", "b"), ("copy", "c", "b")]
            chance.shuffle(inner)
            program = [("open", "a"), ("open", "b"), ("while", 0, inner), ("do", "x", "a")]
            rules = rules_by_chance(chance, ["x", "y", "z", "open", "end"], 8)
            found.append(self.check_by_rows(program, rules, [chance.choice([1, 1, 1, 1, 0]) for place in range(7)]))
        self.assertGreater(found.count(True), 200)
        self.assertGreater(found.count(False), 100)

    def test_a_program_as_great_as_one_may_be(self):
        program = sixty_lines()
        self.assertTrue(is_program(program))
        words = ["deep", "third", "loop", "other", "second", "first", "read", "write", "open", "end", "lend", "back"]
        chance = random.Random(2003)
        lines = {}
        for turn in range(300):
            rules = []
            while len(rules) < 8:
                rules = rules_by_chance(chance, words, 8)
            inputs = [chance.choice([-1, 1, 2, 2, 2]) for place in range(chance.choice([0, 1, 5, 20, 80]))]
            breach = self.check_by_log(program, rules[:chance.randrange(9)], inputs)
            if breach is not None:
                lines[breach[1]] = True
        self.assertGreater(len(lines), 5)

    def test_rules_as_great_as_may_be(self):
        chance = random.Random(2004)
        found = []
        program = [("open", "a"), ("open", "b"), ("tie", "a", "b"), ("while", 0, [
            ("if", place, [("do", "abcdefgh"[place], "ab"[place % 2])], []) for place in range(8)])]
        self.assertTrue(is_program(program))
        for turn in range(60):
            rules = []
            for name in ("one", "two"):
                for sides, words in ((1, SIXTEEN), (2, SIXTEEN_SIDED)):
                    rooms = [[None if chance.random() < 0.01 else chance.randrange(60) for word in words] for room in range(60)]
                    rules.append((name + "xy"[sides - 1], (sides, list(words), rooms)))
            inputs = [chance.randrange(1, 10) for place in range(150)]
            found.append(self.check_by_log(program, rules, inputs) is not None)
        self.assertEqual(set(found), {True, False})

    def test_many_inputs(self):
        program = [("open", "a"), ("open", "b"), ("tie", "a", "b"), ("while", 0, [("do", "turn", "a"), ("do", "look", "b")])]
        rules = [("ring", ring_rule(60, "turn", "end", 7)), ("tied", ring_rule(59, "1.turn", "2.end", 8))]
        for count in (20000, 60 * 300 + 7, 59 * 300 + 8):
            breach = self.check_by_log(program, rules, [9] * count)
            self.assertEqual(breach and breach[1], {18007: "ring", 17708: "tied"}.get(count))
        program = [("while", 0, [("copy", "b", "a"), ("open", "a"), ("tie", "a", "b"), ("do", "go", "b")])]
        self.assertIsNone(self.check_by_log(program, [("few", (2, ["2.go"], [[1], [None]]))], [1] * 10000))
        self.assertEqual(self.check_by_log(program, [("none", (2, ["1.go"], [[None]]))], [1] * 10000)[0], 6)

    def test_a_deed_that_is_passed_over_breaks_nothing(self):
        rules = [("x", barring(1, "x", "lend", "back")), ("y", barring(2, "1.x", "2.x"))]
        program = read_program("open b\ndo x a\nlend a c\nback\ntie a b\ndrop b\ndo x b\nlend b a\nback")
        self.check(program, rules, [], [(0, 0, "open", 0), (9, 0, "end", 0)])

    def test_the_refusal_is_a_breach(self):
        with self.assertRaises(Breach) as caught:
            run_watched([("open", 4, 0), ("end", 5)], [("noopen", barring(1, "open"))], [])
        self.assertIsInstance(caught.exception, UseError)
        self.assertIs(caught.exception.__class__, Breach)
        self.assertEqual(fields_of(caught.exception), ("noopen", 4, [0], ["open"], []))

    def test_the_kinds_of_what_is_told(self):
        for lines, rules, inputs, told in WATCHED:
            if isinstance(told, tuple):
                fields = outcome(code_of(read_program("\n".join(lines))), rules, inputs)
                self.assertEqual([part.__class__ for part in fields], [str, int, list, list, list])
                self.assertEqual({part.__class__ for part in fields[4]} | {tuple}, {tuple})

    def test_nothing_handed_in_is_changed_and_what_is_told_is_the_askers_own(self):
        for lines, rules, inputs, told in WATCHED:
            program = read_program("\n".join(lines))
            for code in (code_of(program), turned_code(program)):
                check_own(self, outcome, code, rules, inputs)
        for program, inputs, log in RUNS:
            check_own(self, outcome, code_of(program), [("door", door()), ("lease", lease())], inputs)

    def test_what_a_refusal_bears_hangs_on_no_other_one(self):
        code = code_of(read_program("open a\nopen b\ntie a b\ndo read b"))
        rules = [("lease", lease())]
        caught = []
        for turn in range(2):
            try:
                run_watched(code, rules, [])
            except Breach as breach:
                caught.append(breach)
        first = copy.deepcopy(fields_of(caught[0]))
        self.assertEqual(len(lists_within(fields_of(caught[0]))), 3)
        spoil(fields_of(caught[1]))
        self.assertEqual(fields_of(caught[0]), first)
        self.assertEqual(outcome(code, rules, []), first)
        spoil((code, rules))
        self.assertEqual(fields_of(caught[0]), first)

    def test_plain_runs_are_as_they_were(self):
        for lines, rules, inputs, told in WATCHED:
            program = read_program("\n".join(lines))
            outcome(code_of(program), rules, inputs)
            self.assertEqual(run_code(code_of(program), inputs), log_by_lines(lines, inputs))


if __name__ == "__main__":
    unittest.main()
