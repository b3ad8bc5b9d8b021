"""The code of a program, and its turned code [2, 16, 17]."""

import random
import unittest

from helpers import check_own, code_by_lines, every_kind, nested, random_steps, sixty_lines
from test_plainruns import RUNS, small_programs
from usewarden.codes import code_of, turned_code
from usewarden.programs import is_program, lines_of, names_of

MOST = 10 ** 60 - 1
X = ("do", "x", "a")
Y = ("do", "y", "b")

# Each a program without a while, and its code: such a one is its turned code, too.
CODES = [
    ([], [("end", 0)]),
    ([("open", "a")], [("open", 0, 0), ("end", 1)]),
    ([("do", "read", "a")], [("do", 0, 0, "read"), ("end", 1)]),
    ([("copy", "a", "b")], [("copy", 0, 0, 1), ("end", 1)]),
    ([("copy", "a", "a")], [("copy", 0, 0, 0), ("end", 1)]),
    ([("drop", "a")], [("drop", 0, 0), ("end", 1)]),
    ([("tie", "b", "a")], [("tie", 0, 0, 1), ("end", 1)]),
    ([("lend", "a", "b", [])], [
        ("copy", 0, 2, 0), ("do", 0, 2, "lend"), ("copy", 0, 1, 2), ("do", 1, 2, "back"), ("drop", 1, 1), ("drop", 1, 2),
        ("end", 2),
    ]),
    ([("lend", "a", "a", [X])], [
        ("copy", 0, 1, 0), ("do", 0, 1, "lend"), ("copy", 0, 0, 1), ("do", 1, 0, "x"), ("do", 2, 1, "back"), ("drop", 2, 0),
        ("drop", 2, 1), ("end", 3),
    ]),
    ([("if", 7, [], [])], [("test", 0, 7, 2), ("jump", 1, 2), ("end", 3)]),
    ([("if", -MOST, [X], [])], [("test", 0, -MOST, 3), ("do", 1, 0, "x"), ("jump", 2, 3), ("end", 4)]),
    ([("if", MOST, [], [X])], [("test", 0, MOST, 2), ("jump", 1, 3), ("do", 2, 0, "x"), ("end", 4)]),
    ([("if", 0, [X, X], [Y]), X], [
        ("test", 0, 0, 4), ("do", 1, 0, "x"), ("do", 2, 0, "x"), ("jump", 3, 5), ("do", 4, 1, "y"), ("do", 6, 0, "x"),
        ("end", 7),
    ]),
    # Slots: names as they come first in the lines, x ahead of y, the word of a do none; lends behind all names.
    ([("lend", "c", "b", [("do", "e", "d")]), ("lend", "a", "d", [])], [
        ("copy", 0, 4, 0), ("do", 0, 4, "lend"), ("copy", 0, 1, 4), ("do", 1, 2, "e"), ("do", 2, 4, "back"), ("drop", 2, 1),
        ("drop", 2, 4), ("copy", 3, 5, 3), ("do", 3, 5, "lend"), ("copy", 3, 2, 5), ("do", 4, 5, "back"), ("drop", 4, 2),
        ("drop", 4, 5), ("end", 5),
    ]),
    # Lends are numbered by their lines: one around others ahead of them.
    ([("lend", "a", "b", [("lend", "b", "a", []), ("lend", "a", "a", [])])], [
        ("copy", 0, 2, 0), ("do", 0, 2, "lend"), ("copy", 0, 1, 2),
        ("copy", 1, 3, 1), ("do", 1, 3, "lend"), ("copy", 1, 0, 3), ("do", 2, 3, "back"), ("drop", 2, 0), ("drop", 2, 3),
        ("copy", 3, 4, 0), ("do", 3, 4, "lend"), ("copy", 3, 0, 4), ("do", 4, 4, "back"), ("drop", 4, 0), ("drop", 4, 4),
        ("do", 5, 2, "back"), ("drop", 5, 1), ("drop", 5, 2), ("end", 6),
    ]),
    # Words and names like those of the steps' own.
    ([("do", "lend", "lend"), ("open", "back"), ("do", "while", "end")], [
        ("do", 0, 0, "lend"), ("open", 1, 1), ("do", 2, 2, "while"), ("end", 3),
    ]),
]

# Each a program with a while, its code and its turned code.
TURNED = [
    ([("while", 0, [])], [("test", 0, 0, 2), ("jump", 1, 0), ("end", 2)], [
        ("test", 0, 0, 3), ("test", 0, 0, 3), ("jump", 1, 1), ("end", 2),
    ]),
    (
        [("open", "a"), ("while", -5, [X, Y]), X],
        [
            ("open", 0, 0), ("test", 1, -5, 5), ("do", 2, 0, "x"), ("do", 3, 1, "y"), ("jump", 4, 1), ("do", 5, 0, "x"),
            ("end", 6),
        ],
        [
            ("open", 0, 0), ("test", 1, -5, 8), ("do", 2, 0, "x"), ("do", 3, 1, "y"),
            ("test", 1, -5, 8), ("do", 2, 0, "x"), ("do", 3, 1, "y"), ("jump", 4, 4), ("do", 5, 0, "x"), ("end", 6),
        ],
    ),
    # The first round of the outer one has the inner one turned, the others have it as it is.
    (
        [("while", 1, [X, ("while", 2, [Y])])],
        [
            ("test", 0, 1, 6), ("do", 1, 0, "x"), ("test", 2, 2, 5), ("do", 3, 1, "y"), ("jump", 4, 2), ("jump", 5, 0),
            ("end", 6),
        ],
        [
            ("test", 0, 1, 13), ("do", 1, 0, "x"), ("test", 2, 2, 7), ("do", 3, 1, "y"), ("test", 2, 2, 7), ("do", 3, 1, "y"),
            ("jump", 4, 4), ("test", 0, 1, 13), ("do", 1, 0, "x"), ("test", 2, 2, 12), ("do", 3, 1, "y"), ("jump", 4, 9),
            ("jump", 5, 7), ("end", 6),
        ],
    ),
    # Two behind one another, each turned.
    (
        [("while", 1, []), ("while", 2, [])],
        [("test", 0, 1, 2), ("jump", 1, 0), ("test", 2, 2, 4), ("jump", 3, 2), ("end", 4)],
        [
            ("test", 0, 1, 3), ("test", 0, 1, 3), ("jump", 1, 1), ("test", 2, 2, 6), ("test", 2, 2, 6), ("jump", 3, 4),
            ("end", 4),
        ],
    ),
    # Within an if, on both of its sides.
    (
        [("if", 0, [("while", 1, [])], [("while", 2, [X])])],
        [
            ("test", 0, 0, 4), ("test", 1, 1, 3), ("jump", 2, 1), ("jump", 3, 7), ("test", 4, 2, 7), ("do", 5, 0, "x"),
            ("jump", 6, 4), ("end", 8),
        ],
        [
            ("test", 0, 0, 5), ("test", 1, 1, 4), ("test", 1, 1, 4), ("jump", 2, 2), ("jump", 3, 10), ("test", 4, 2, 10),
            ("do", 5, 0, "x"), ("test", 4, 2, 10), ("do", 5, 0, "x"), ("jump", 6, 7), ("end", 8),
        ],
    ),
    # Within a lend.
    (
        [("lend", "a", "b", [("while", 0, [])])],
        [
            ("copy", 0, 2, 0), ("do", 0, 2, "lend"), ("copy", 0, 1, 2), ("test", 1, 0, 5), ("jump", 2, 3), ("do", 3, 2, "back"),
            ("drop", 3, 1), ("drop", 3, 2), ("end", 4),
        ],
        [
            ("copy", 0, 2, 0), ("do", 0, 2, "lend"), ("copy", 0, 1, 2), ("test", 1, 0, 6), ("test", 1, 0, 6), ("jump", 2, 4),
            ("do", 3, 2, "back"), ("drop", 3, 1), ("drop", 3, 2), ("end", 4),
        ],
    ),
    # A lend within a while has the same slot at both places, and so has the one behind.
    (
        [("while", 0, [("lend", "a", "a", [])]), ("lend", "a", "a", [])],
        [
            ("test", 0, 0, 8), ("copy", 1, 1, 0), ("do", 1, 1, "lend"), ("copy", 1, 0, 1), ("do", 2, 1, "back"), ("drop", 2, 0),
            ("drop", 2, 1), ("jump", 3, 0), ("copy", 4, 2, 0), ("do", 4, 2, "lend"), ("copy", 4, 0, 2), ("do", 5, 2, "back"),
            ("drop", 5, 0), ("drop", 5, 2), ("end", 6),
        ],
        [
            ("test", 0, 0, 15), ("copy", 1, 1, 0), ("do", 1, 1, "lend"), ("copy", 1, 0, 1), ("do", 2, 1, "back"),
            ("drop", 2, 0), ("drop", 2, 1),
            ("test", 0, 0, 15), ("copy", 1, 1, 0), ("do", 1, 1, "lend"), ("copy", 1, 0, 1), ("do", 2, 1, "back"),
            ("drop", 2, 0), ("drop", 2, 1), ("jump", 3, 7),
            ("copy", 4, 2, 0), ("do", 4, 2, "lend"), ("copy", 4, 0, 2), ("do", 5, 2, "back"), ("drop", 5, 0), ("drop", 5, 2),
            ("end", 6),
        ],
    ),
]

KINDS = {
    "open": [str, int, int], "do": [str, int, int, str], "copy": [str, int, int, int], "drop": [str, int, int],
    "tie": [str, int, int, int], "test": [str, int, int, int], "jump": [str, int, int], "end": [str, int],
}


class Codes(unittest.TestCase):
    def test_codes_that_are_known(self):
        for program, code in CODES:
            self.assertTrue(is_program(program))
            self.assertEqual(code_of(program), code, program)
            self.assertEqual(turned_code(program), code, program)

    def test_turned_codes_that_are_known(self):
        for program, code, turned in TURNED:
            self.assertTrue(is_program(program))
            self.assertEqual(code_of(program), code, program)
            self.assertEqual(turned_code(program), turned, program)

    def check(self, program):
        lines = lines_of(program)
        self.assertEqual(code_of(program), code_by_lines(lines, False), program)
        self.assertEqual(turned_code(program), code_by_lines(lines, True), program)

    def test_small_programs(self):
        for program in small_programs():
            self.check(program)
            self.check([("while", 3, program), ("if", -3, [("while", 1, [X])], program)])

    def test_programs_by_chance(self):
        chance = random.Random(1601)
        for turn in range(1500):
            self.check(random_steps(chance, ["a", "b", "c", "d"][:chance.randrange(1, 5)], 3, 4))

    def test_great_programs(self):
        self.assertTrue(is_program(sixty_lines()))
        self.check(sixty_lines())
        self.check(every_kind()[0])
        for kind in ("lend", "if", "else", "while"):
            for count in range(1, 9):
                self.check(nested(kind, count))
                self.check([("while", 0, nested(kind, count) + [X])])

    def test_whiles_within_one_another_are_not_doubled_at_each_of_them(self):
        # A while turned has its steps turned, then itself as it is: so the outermost of n adds 2 n + 1 rows to those within.
        for count in range(1, 9):
            self.assertEqual(len(code_of(nested("while", count))), 2 * count + 1)
            self.assertEqual(len(turned_code(nested("while", count))), count * (count + 2) + 1)

    def test_rows_lead_to_rows(self):
        for program in [sixty_lines(), every_kind()[0], *[run[0] for run in RUNS]]:
            for code in (code_of(program), turned_code(program)):
                self.assertEqual([row[0] for row in code].index("end"), len(code) - 1)
                self.assertEqual(code[-1], ("end", len(lines_of(program))))
                for at, row in enumerate(code):
                    if row[0] == "test":
                        self.assertTrue(at < row[3] < len(code))
                    if row[0] == "jump":
                        self.assertEqual(code[row[2]][0] == "test" and row[2] < at, lines_of(program)[row[1]] == "done")

    def test_both_codes_have_the_same_slots(self):
        for program in [sixty_lines(), every_kind()[0]]:
            count = len(names_of(program)) + sum(line.startswith("lend ") for line in lines_of(program))
            for code in (code_of(program), turned_code(program)):
                met = {part for row in code for part in row[2:] if row[0] in ("open", "copy", "drop", "tie")}
                met |= {row[2] for row in code if row[0] == "do"}
                self.assertEqual(met, set(range(count)))
            by_line = {}
            for row in code_of(program) + turned_code(program):
                if row[0] == "do":
                    self.assertEqual(by_line.setdefault(row[1], row), row)

    def test_the_kinds_of_what_is_told(self):
        for program in [sixty_lines(), every_kind()[0]]:
            for row in code_of(program) + turned_code(program):
                self.assertIs(row.__class__, tuple)
                self.assertEqual([part.__class__ for part in row], KINDS[row[0]])

    def test_programs_somewhat_beyond_the_bounds_have_codes(self):
        program = [("open", name) for name in "abcdefgh"] * 9 + nested("lend", 20) + nested("while", 20) + nested("else", 20)
        self.assertFalse(is_program(program))
        self.check(program)

    def test_nothing_handed_in_is_changed_and_the_code_is_the_askers_own(self):
        for program in [case[0] for case in CODES + TURNED] + [sixty_lines(), every_kind()[0]]:
            check_own(self, code_of, program)
            check_own(self, turned_code, program)


if __name__ == "__main__":
    unittest.main()
