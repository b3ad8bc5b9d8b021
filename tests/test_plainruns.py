"""Runs of programs [2, 13, 15]."""

import itertools
import random
import unittest

from helpers import check_own, log_by_lines, nested, runs_by_chance, sixty_lines
from usewarden.plainruns import run_plain
from usewarden.programs import is_program, lines_of

MOST = 10 ** 60 - 1
MORE = 10 ** 61 - 1
A = ("open", "a")
B = ("open", "b")


def do(word, name):
    return ("do", word, name)


# Each a program, inputs, and the log.
RUNS = [
    # Programs of no steps, and each kind of step where nothing is held.
    ([], [], []),
    ([], [7, -7], []),
    ([do("read", "a")], [], []),
    ([("copy", "a", "b")], [], []),
    ([("copy", "a", "a")], [], []),
    ([("drop", "a")], [], []),
    ([("tie", "a", "b")], [], []),
    ([("tie", "a", "a")], [], []),
    ([("lend", "a", "b", [])], [], []),
    ([("if", 0, [], [])], [1], []),
    ([("while", 0, [])], [1, 1, 0], []),
    ([A], [], [(0, 0, "open", 0), (1, 0, "end", 0)]),
    # Handles are numbered as they are opened, whoever holds them; those that none holds end, too.
    ([A, A, B], [], [
        (0, 0, "open", 0), (1, 1, "open", 0), (2, 2, "open", 0), (3, 0, "end", 0), (3, 1, "end", 0), (3, 2, "end", 0),
    ]),
    ([B, A, do("x", "a"), do("y", "b")], [], [
        (0, 0, "open", 0), (1, 1, "open", 0), (2, 1, "x", 0), (3, 0, "y", 0), (4, 0, "end", 0), (4, 1, "end", 0),
    ]),
    # Any word may be done, those of the steps' own deeds too.
    ([A, do("open", "a"), do("lend", "a"), do("back", "a"), do("end", "a")], [], [
        (0, 0, "open", 0), (1, 0, "open", 0), (2, 0, "lend", 0), (3, 0, "back", 0), (4, 0, "end", 0), (5, 0, "end", 0),
    ]),
    ([("open", "open"), do("do", "open"), do("z", "end")], [], [(0, 0, "open", 0), (1, 0, "do", 0), (3, 0, "end", 0)]),
    # Two names hold one handle; each may be dropped alone.
    ([A, ("copy", "b", "a"), ("drop", "a"), do("x", "a"), do("y", "b")], [], [
        (0, 0, "open", 0), (4, 0, "y", 0), (5, 0, "end", 0),
    ]),
    ([A, ("copy", "a", "a"), do("x", "a")], [], [(0, 0, "open", 0), (2, 0, "x", 0), (3, 0, "end", 0)]),
    # What holds nothing is copied, too.
    ([A, ("copy", "a", "b"), do("x", "a")], [], [(0, 0, "open", 0), (3, 0, "end", 0)]),
    ([A, ("copy", "b", "a"), A, do("x", "b"), do("y", "a")], [], [
        (0, 0, "open", 0), (2, 1, "open", 0), (3, 0, "x", 0), (4, 1, "y", 0), (5, 0, "end", 0), (5, 1, "end", 0),
    ]),
    # Ties: in both orders, twice, of one handle with itself, and where one holds nothing.
    ([A, B, ("tie", "a", "b"), ("tie", "b", "a"), ("tie", "a", "b")], [], [
        (0, 0, "open", 0), (1, 1, "open", 0), (2, 0, 1), (3, 1, 0), (4, 0, 1), (5, 0, "end", 0), (5, 1, "end", 0),
    ]),
    ([A, ("tie", "a", "a"), ("copy", "b", "a"), ("tie", "a", "b"), ("tie", "a", "c"), ("tie", "c", "a")], [], [
        (0, 0, "open", 0), (6, 0, "end", 0),
    ]),
    # A lend, and what its names hold within it and behind it.
    ([A, ("lend", "a", "b", [do("x", "b"), do("y", "a")]), do("z", "b"), do("w", "a")], [], [
        (0, 0, "open", 0), (1, 0, "lend", 0), (2, 0, "x", 0), (3, 0, "y", 0), (4, 0, "back", 0), (6, 0, "w", 0),
        (7, 0, "end", 0),
    ]),
    ([A, ("lend", "a", "a", [do("x", "a")]), do("y", "a")], [], [
        (0, 0, "open", 0), (1, 0, "lend", 0), (2, 0, "x", 0), (3, 0, "back", 0), (5, 0, "end", 0),
    ]),
    ([A, B, ("lend", "a", "b", []), do("x", "b")], [], [
        (0, 0, "open", 0), (1, 1, "open", 0), (2, 0, "lend", 0), (3, 0, "back", 0), (5, 0, "end", 0), (5, 1, "end", 0),
    ]),
    # Nothing is lent: the taker holds nothing within the lend and behind it, but the steps are done.
    ([B, ("lend", "a", "b", [do("x", "b"), A, do("y", "a"), B]), do("z", "b"), do("w", "a")], [], [
        (0, 0, "open", 0), (3, 1, "open", 0), (4, 1, "y", 0), (5, 2, "open", 0), (8, 1, "w", 0), (9, 0, "end", 0),
        (9, 1, "end", 0), (9, 2, "end", 0),
    ]),
    ([("lend", "a", "a", [A, do("x", "a")]), do("y", "a")], [], [(1, 0, "open", 0), (2, 0, "x", 0), (5, 0, "end", 0)]),
    # The lent handle gives back itself, whoever holds it by then, be it none.
    ([A, ("lend", "a", "b", [("drop", "a"), ("drop", "b")])], [], [
        (0, 0, "open", 0), (1, 0, "lend", 0), (4, 0, "back", 0), (5, 0, "end", 0),
    ]),
    ([A, ("lend", "a", "b", [A, B, do("x", "a"), do("y", "b")]), do("z", "b"), do("w", "a")], [], [
        (0, 0, "open", 0), (1, 0, "lend", 0), (2, 1, "open", 0), (3, 2, "open", 0), (4, 1, "x", 0), (5, 2, "y", 0),
        (6, 0, "back", 0), (8, 1, "w", 0), (9, 0, "end", 0), (9, 1, "end", 0), (9, 2, "end", 0),
    ]),
    ([A, ("lend", "a", "b", [("copy", "c", "b"), ("drop", "a")]), do("x", "a"), do("y", "b"), do("z", "c")], [], [
        (0, 0, "open", 0), (1, 0, "lend", 0), (4, 0, "back", 0), (7, 0, "z", 0), (8, 0, "end", 0),
    ]),
    # Lent again within the lend: on to another name, back to its own, and by the same two names.
    ([A, ("lend", "a", "b", [("lend", "b", "c", [do("x", "c")]), do("y", "b"), do("z", "c")])], [], [
        (0, 0, "open", 0), (1, 0, "lend", 0), (2, 0, "lend", 0), (3, 0, "x", 0), (4, 0, "back", 0), (5, 0, "y", 0),
        (7, 0, "back", 0), (8, 0, "end", 0),
    ]),
    ([A, ("lend", "a", "b", [("lend", "b", "a", [do("x", "a")]), do("y", "a"), do("z", "b")]), do("w", "a")], [], [
        (0, 0, "open", 0), (1, 0, "lend", 0), (2, 0, "lend", 0), (3, 0, "x", 0), (4, 0, "back", 0), (6, 0, "z", 0),
        (7, 0, "back", 0), (9, 0, "end", 0),
    ]),
    ([A, ("lend", "a", "b", [("lend", "a", "b", []), do("x", "b"), ("lend", "b", "a", [])]), do("y", "a")], [], [
        (0, 0, "open", 0), (1, 0, "lend", 0), (2, 0, "lend", 0), (3, 0, "back", 0), (7, 0, "back", 0), (9, 0, "end", 0),
    ]),
    # An if: more, just as much, less, and no input left.
    ([A, ("if", 3, [do("x", "a")], [do("y", "a")])], [4], [(0, 0, "open", 0), (2, 0, "x", 4), (6, 0, "end", 4)]),
    ([A, ("if", 3, [do("x", "a")], [do("y", "a")])], [3], [(0, 0, "open", 0), (4, 0, "y", 3), (6, 0, "end", 3)]),
    ([A, ("if", 3, [do("x", "a")], [do("y", "a")])], [2], [(0, 0, "open", 0), (4, 0, "y", 2), (6, 0, "end", 2)]),
    ([A, ("if", 3, [do("x", "a")], [do("y", "a")])], [], [(0, 0, "open", 0), (4, 0, "y", 0), (6, 0, "end", 0)]),
    ([A, ("if", -3, [do("x", "a")], [do("y", "a")])], [], [(0, 0, "open", 0), (4, 0, "y", 0), (6, 0, "end", 0)]),
    ([A, ("if", -3, [do("x", "a")], [])], [-2, 9], [(0, 0, "open", 0), (2, 0, "x", -2), (5, 0, "end", -2)]),
    ([A, ("if", -3, [], [do("y", "a")])], [-4], [(0, 0, "open", 0), (3, 0, "y", -4), (5, 0, "end", -4)]),
    # The last input stays the last one where none is left.
    ([A, ("if", 0, [], []), ("if", -9, [do("x", "a")], [do("y", "a")])], [5], [
        (0, 0, "open", 0), (7, 0, "y", 5), (9, 0, "end", 5),
    ]),
    # A while: with as many inputs as it takes, with fewer and with more.
    ([A, ("while", 0, [do("x", "a")]), do("y", "a")], [2, 1, 0], [
        (0, 0, "open", 0), (2, 0, "x", 2), (2, 0, "x", 1), (4, 0, "y", 0), (5, 0, "end", 0),
    ]),
    ([A, ("while", 0, [do("x", "a")]), do("y", "a")], [2, 1], [
        (0, 0, "open", 0), (2, 0, "x", 2), (2, 0, "x", 1), (4, 0, "y", 1), (5, 0, "end", 1),
    ]),
    ([A, ("while", -1, [do("x", "a")]), do("y", "a")], [0, -1, 9], [
        (0, 0, "open", 0), (2, 0, "x", 0), (4, 0, "y", -1), (5, 0, "end", -1),
    ]),
    ([A, ("while", 0, [do("x", "a")]), do("y", "a")], [], [(0, 0, "open", 0), (4, 0, "y", 0), (5, 0, "end", 0)]),
    # Each round opens another handle, and each lend of a while is one of its own.
    ([("while", 0, [A, ("lend", "a", "b", [("drop", "a")])])], [3, 5, 0], [
        (1, 0, "open", 3), (2, 0, "lend", 3), (4, 0, "back", 3), (1, 1, "open", 5), (2, 1, "lend", 5), (4, 1, "back", 5),
        (6, 0, "end", 0), (6, 1, "end", 0),
    ]),
    # What a round holds is there in the next one.
    ([("while", 0, [("tie", "a", "b"), do("x", "b"), ("copy", "b", "a"), A])], [1, 2, 3], [
        (4, 0, "open", 1), (4, 1, "open", 2), (1, 1, 0), (2, 0, "x", 3), (4, 2, "open", 3), (6, 0, "end", 3),
        (6, 1, "end", 3), (6, 2, "end", 3),
    ]),
    # Within one another each takes the next input.
    ([A, ("while", 0, [("while", 5, [do("x", "a")]), do("y", "a")])], [1, 6, 7, 5, 2, 9], [
        (0, 0, "open", 0), (3, 0, "x", 6), (3, 0, "x", 7), (5, 0, "y", 5), (3, 0, "x", 9), (5, 0, "y", 9),
        (7, 0, "end", 9),
    ]),
    ([A, ("while", 0, [("if", 1, [("if", 2, [do("x", "a")], [do("y", "a")])], [do("z", "a")])])], [1, 2, 3, 1, 2, 2, 1, 1], [
        (0, 0, "open", 0), (4, 0, "x", 3), (6, 0, "y", 2), (9, 0, "z", 1), (12, 0, "end", 1),
    ]),
    ([A, ("if", 0, [("while", 0, [do("x", "a")]), do("y", "a")], [("while", 0, [do("z", "a")])])], [1, 1, 0, 1], [
        (0, 0, "open", 0), (3, 0, "x", 1), (5, 0, "y", 0), (11, 0, "end", 0),
    ]),
    ([A, ("if", 0, [("while", 0, [do("x", "a")])], [("while", 0, [do("z", "a")]), do("y", "a")])], [0, 8, 0, 1], [
        (0, 0, "open", 0), (7, 0, "z", 8), (9, 0, "y", 0), (11, 0, "end", 0),
    ]),
    # Bounds of sixty figures, and inputs of sixty-one.
    ([A, ("while", MOST, [do("x", "a")])], [MOST + 1, MORE, MOST, MORE], [
        (0, 0, "open", 0), (2, 0, "x", MOST + 1), (2, 0, "x", MORE), (4, 0, "end", MOST),
    ]),
    ([A, ("while", -MOST, [do("x", "a")])], [-MOST + 1, MORE, -MOST, 0], [
        (0, 0, "open", 0), (2, 0, "x", -MOST + 1), (2, 0, "x", MORE), (4, 0, "end", -MOST),
    ]),
    ([A, ("if", -MOST, [do("x", "a")], [do("y", "a")])], [-MOST - 1], [
        (0, 0, "open", 0), (4, 0, "y", -MOST - 1), (6, 0, "end", -MOST - 1),
    ]),
    ([A, ("if", MOST, [do("x", "a")], [do("y", "a")])], [MOST - 1], [
        (0, 0, "open", 0), (4, 0, "y", MOST - 1), (6, 0, "end", MOST - 1),
    ]),
    ([A, ("if", 0, [do("x", "a")], [do("y", "a")])], [-MORE], [(0, 0, "open", 0), (4, 0, "y", -MORE), (6, 0, "end", -MORE)]),
]


def simple_steps():
    """All steps of two names without steps within them, with one word to do."""
    names = ["a", "b"]
    pairs = list(itertools.product(names, repeat=2))
    return [("open", x) for x in names] + [("do", "z", x) for x in names] + [("drop", x) for x in names] + [
        (kind, x, y) for kind in ("copy", "tie") for x, y in pairs]


def small_programs():
    """All programs of two simple steps at most, alone, within each kind of step, and behind handles that are held."""
    for count in range(3):
        for steps in itertools.product(simple_steps(), repeat=count):
            yield list(steps)
            yield [A, B, *steps]
    for step in simple_steps():
        for block in ([], [step]):
            for x, y in itertools.product("ab", repeat=2):
                for ahead in ([], [A], [A, B]):
                    yield ahead + [("lend", x, y, list(block)), step, do("z", "a"), do("z", "b")]
            yield [A, ("while", 0, [*block, B, ("tie", "a", "b")]), step]
            yield [A, ("if", 0, list(block), [step]), do("z", "a")]
            yield [A, ("if", 0, [step], list(block)), do("z", "a")]


def small_inputs():
    """All lists of three inputs at most, of two numbers, one not more than 0 and one more."""
    return [list(inputs) for count in range(4) for inputs in itertools.product([0, 1], repeat=count)]


def takes_inputs(program):
    return any(step[0] in ("if", "while") for step in program)


class Runs(unittest.TestCase):
    def test_logs_that_are_known(self):
        for program, inputs, log in RUNS:
            self.assertTrue(is_program(program))
            self.assertEqual(run_plain(program, inputs), log, (program, inputs))
            self.assertEqual(log_by_lines(lines_of(program), inputs), log, (program, inputs))

    def test_small_programs(self):
        for program in small_programs():
            lines = lines_of(program)
            for inputs in small_inputs() if takes_inputs(program) else [[], [1]]:
                self.assertEqual(run_plain(program, inputs), log_by_lines(lines, inputs), (program, inputs))

    def test_programs_by_chance(self):
        for program, inputs, log in runs_by_chance(random.Random(1501), 1500):
            self.assertEqual(run_plain(program, inputs), log, (program, inputs))

    def test_a_program_as_great_as_one_may_be(self):
        program = sixty_lines()
        lines = lines_of(program)
        self.assertTrue(is_program(program))
        self.assertEqual(len(lines), 60)
        chance = random.Random(1502)
        met = {}
        for count in (0, 1, 2, 5, 10, 40, 200):
            for turn in range(20):
                inputs = [chance.choice([-1, 0, 1, 2, 2, 2, 2]) for place in range(count)]
                log = run_plain(program, inputs)
                self.assertEqual(log, log_by_lines(lines, inputs))
                met.update((entry[0], True) for entry in log)
        # The innermost lines, those of each lend and those of each else came into a log.
        self.assertLessEqual({0, 3, 4, 5, 10, 11, 12, 15, 17, 20, 24, 26, 27, 28, 30, 31, 32, 33, 35, 60}, set(met))

    def test_blocks_within_one_another(self):
        for kind in ("if", "else", "while"):
            for count in range(1, 9):
                program = [A, *nested(kind, count)]
                lines = lines_of(program)
                self.assertTrue(is_program(program))
                for inputs in ([], [9], [9] * count, [9] * 20, [-9] * 20, [9, -9] * 10, list(range(9, -9, -1))):
                    log = run_plain(program, inputs)
                    self.assertEqual(log, log_by_lines(lines, inputs))
                    self.assertEqual([entry[0] for entry in log], [0, len(lines)])

    def test_as_many_inputs_are_taken_as_there_are_blocks(self):
        deep = [do("x", "a")]
        for turn in range(8):
            deep = [("if", 0, deep, [])]
        self.assertTrue(is_program([A, *deep]))
        for count in range(11):
            inputs = list(range(1, count + 1))
            log = run_plain([A, *deep], inputs)
            end = len(lines_of([A, *deep]))
            done = [(9, 0, "x", 8)] if count >= 8 else []
            self.assertEqual(log, [(0, 0, "open", 0), *done, (end, 0, "end", min(count, 8))])

    def test_long_lists_of_inputs(self):
        program = [A, ("while", -MOST, [("if", MOST, [do("x", "a")], [do("y", "a")])])]
        inputs = [1 - MOST, MOST + 1, 0, MOST, MORE, -MORE] * 20000
        log = run_plain(program, inputs)
        self.assertEqual(len(log), 60002)
        self.assertEqual(log[:4], [(0, 0, "open", 0), (3, 0, "x", MOST + 1), (5, 0, "y", MOST), (5, 0, "y", -MORE)])
        self.assertEqual(log[-2:], [(5, 0, "y", -MORE), (8, 0, "end", -MORE)])
        self.assertEqual(run_plain([("while", 0, [A])], [1] * 30000)[-1], (3, 29999, "end", 1))

    def test_programs_somewhat_beyond_the_bounds_are_run(self):
        program = [("open", name) for name in "abcdefgh"] * 9
        program += [("lend", "a", "b", [("lend", "c", "d", [("lend", "e", "f", [("lend", "g", "h", [])])])])] + nested("while", 20)
        self.assertFalse(is_program(program))
        self.assertEqual(run_plain(program, [30, 40]), log_by_lines(lines_of(program), [30, 40]))

    def test_nothing_handed_in_is_changed_and_the_log_is_the_askers_own(self):
        for program, inputs, log in RUNS:
            check_own(self, run_plain, program, inputs)
        check_own(self, run_plain, sixty_lines(), [2] * 50)

    def test_the_kinds_of_what_is_told(self):
        for entry in run_plain(sixty_lines(), [2, 2, 2, 2, 1, 0] * 9):
            self.assertIs(entry.__class__, tuple)
            self.assertIn([part.__class__ for part in entry], ([int, int, str, int], [int, int, int]))


if __name__ == "__main__":
    unittest.main()
