"""Runs of codes, and that program, code and turned code have equal logs [2, 15, 16, 17]."""

import random
import unittest

from helpers import check_own, every_kind, log_by_lines, nested, runs_by_chance, sixty_lines
from test_plainruns import RUNS, small_inputs, small_programs, takes_inputs
from usewarden.coderuns import run_code
from usewarden.codes import code_of, turned_code
from usewarden.plainruns import run_plain
from usewarden.programs import is_program, lines_of

MOST = 10 ** 60 - 1
MORE = 10 ** 61 - 1

# Each a code, inputs, and the log: codes written by hand, so that what runs them is seen alone.
BY_ROWS = [
    ([("end", 0)], [], []),
    ([("end", 0)], [4], []),
    ([("open", 0, 0), ("end", 1)], [], [(0, 0, "open", 0), (1, 0, "end", 0)]),
    ([("do", 0, 0, "x"), ("copy", 1, 0, 1), ("drop", 2, 1), ("tie", 3, 0, 1), ("end", 4)], [], []),
    ([("open", 0, 0), ("open", 1, 1), ("tie", 2, 1, 0), ("tie", 3, 0, 0), ("copy", 4, 0, 1), ("tie", 5, 0, 1), ("end", 6)], [], [
        (0, 0, "open", 0), (1, 1, "open", 0), (2, 1, 0), (6, 0, "end", 0), (6, 1, "end", 0),
    ]),
    ([("open", 0, 0), ("copy", 1, 1, 0), ("drop", 2, 0), ("do", 3, 0, "x"), ("do", 4, 1, "y"), ("end", 5)], [], [
        (0, 0, "open", 0), (4, 0, "y", 0), (5, 0, "end", 0),
    ]),
    ([("open", 0, 0), ("test", 1, 5, 4), ("do", 2, 0, "x"), ("jump", 3, 5), ("do", 4, 0, "y"), ("end", 6)], [6], [
        (0, 0, "open", 0), (2, 0, "x", 6), (6, 0, "end", 6),
    ]),
    ([("open", 0, 0), ("test", 1, 5, 4), ("do", 2, 0, "x"), ("jump", 3, 5), ("do", 4, 0, "y"), ("end", 6)], [5], [
        (0, 0, "open", 0), (4, 0, "y", 5), (6, 0, "end", 5),
    ]),
    ([("open", 0, 0), ("test", 1, -5, 4), ("do", 2, 0, "x"), ("jump", 3, 5), ("do", 4, 0, "y"), ("end", 6)], [], [
        (0, 0, "open", 0), (4, 0, "y", 0), (6, 0, "end", 0),
    ]),
    ([("test", 0, 0, 3), ("open", 1, 0), ("jump", 2, 0), ("end", 3)], [1, 2, 0, 3], [
        (1, 0, "open", 1), (1, 1, "open", 2), (3, 0, "end", 0), (3, 1, "end", 0),
    ]),
    ([("test", 0, 0, 3), ("open", 1, 0), ("jump", 2, 0), ("end", 3)], [1], [(1, 0, "open", 1), (3, 0, "end", 1)]),
]


class Runs(unittest.TestCase):
    def check(self, program, inputs, log):
        self.assertEqual(run_plain(program, inputs), log, (program, inputs))
        self.assertEqual(run_code(code_of(program), inputs), log, (program, inputs))
        self.assertEqual(run_code(turned_code(program), inputs), log, (program, inputs))

    def test_logs_of_rows(self):
        for code, inputs, log in BY_ROWS:
            self.assertEqual(run_code(code, inputs), log, (code, inputs))

    def test_logs_that_are_known(self):
        for program, inputs, log in RUNS:
            self.check(program, inputs, log)

    def test_small_programs(self):
        for program in small_programs():
            lines = lines_of(program)
            for inputs in small_inputs() if takes_inputs(program) else [[]]:
                self.check(program, inputs, log_by_lines(lines, inputs))

    def test_small_programs_within_a_while(self):
        for program in small_programs():
            around = [("open", "b"), ("while", 0, program)]
            lines = lines_of(around)
            for inputs in ([], [0], [1], [1, 0], [1, 1], [1, 1, 1, 0, 1]):
                self.check(around, inputs, log_by_lines(lines, inputs))

    def test_programs_by_chance(self):
        for program, inputs, log in runs_by_chance(random.Random(1701), 1500):
            self.check(program, inputs, log)

    def test_a_program_as_great_as_one_may_be(self):
        program = sixty_lines()
        lines = lines_of(program)
        chance = random.Random(1702)
        for count in (0, 1, 2, 3, 5, 10, 40, 200):
            for turn in range(20):
                inputs = [chance.choice([-1, 0, 1, 2, 2, 2, 2]) for place in range(count)]
                self.check(program, inputs, log_by_lines(lines, inputs))

    def test_blocks_within_one_another(self):
        chance = random.Random(1703)
        for kind in ("lend", "if", "else", "while"):
            for count in range(1, 8):
                program = [("open", "x"), ("while", 0, [("open", "y"), *nested(kind, count), ("tie", "x", "y")])]
                lines = lines_of(program)
                self.assertTrue(is_program(program) or kind == "lend")
                for turn in range(20):
                    inputs = [chance.randrange(-9, 10) for place in range(chance.randrange(30))]
                    self.check(program, inputs, log_by_lines(lines, inputs))

    def test_inputs_at_the_bounds(self):
        for bound in (0, 1, -1, 9, -9, MOST, MOST - 1, -MOST, 1 - MOST):
            program = [("open", "a"), ("while", bound, [("do", "x", "a"), ("if", bound, [("open", "a")], [("drop", "a")])])]
            lines = lines_of(program)
            near = [bound - 1, bound, bound + 1, MORE, -MORE]
            for first in near:
                for second in near:
                    for inputs in ([first], [first, second], [first, second, second, first], [first, first, second, second]):
                        self.check(program, inputs, log_by_lines(lines, inputs))

    def test_long_lists_of_inputs(self):
        program = [("open", "a"), ("while", -MOST, [("if", MOST, [("do", "x", "a")], [("open", "b"), ("tie", "a", "b")])])]
        inputs = [1 - MOST, MOST + 1, 0, MOST, MORE, -MORE] * 20000
        log = run_plain(program, inputs)
        self.assertEqual(len(log), 1 + 20000 + 2 * 40000 + 40001)
        self.check(program, inputs, log)

    def test_programs_somewhat_beyond_the_bounds(self):
        program = [("open", name) for name in "abcdefgh"] * 9
        program += [("while", 0, [("lend", "a", "b", [("lend", "c", "d", [("lend", "e", "f", [("lend", "g", "h", [])])])])])]
        program += nested("while", 20)
        inputs = [1, 1, 0, 30, 40, 2, 3] * 5
        self.assertFalse(is_program(program))
        self.check(program, inputs, log_by_lines(lines_of(program), inputs))

    def test_nothing_handed_in_is_changed_and_the_log_is_the_askers_own(self):
        for program, inputs, log in [*RUNS, (sixty_lines(), [2] * 50, None), (every_kind()[0], [1, 1, 0], None)]:
            for code in (code_of(program), turned_code(program)):
                check_own(self, run_code, code, inputs)

    def test_the_kinds_of_what_is_told(self):
        for code in (code_of(sixty_lines()), turned_code(sixty_lines())):
            for entry in run_code(code, [2, 2, 2, 2, 1, 0] * 9):
                self.assertIs(entry.__class__, tuple)
                self.assertIn([part.__class__ for part in entry], ([int, int, str, int], [int, int, int]))


if __name__ == "__main__":
    unittest.main()
