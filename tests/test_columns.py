"""Columns: where a watch must look, or step [2, 23, 24, 25, 27]."""

import random
import unittest

from helpers import (
    all_codes, barring, check_own, closed_by_words, codes_by_chance, column_by_words, door, free, great_codes, lease,
    least_by_turns, let_by_words, sixty_lines, steps_rule,
)
from test_papers import PAPERS, small_codes
from usewarden.checker import is_closed, lets_by
from usewarden.codes import code_of, turned_code
from usewarden.columns import column_of
from usewarden.papers import paper_of
from usewarden.progtexts import read_program

# Each the lines of a program, a rule, and the column of the program's code, a letter for each row.
COLUMNS = [
    ([], door(), "n"),
    ([], barring(1, "end"), "n"),
    (["do read a"], door(), "nn"),
    # Nothing breaks the rule: so nothing is kept.
    (["open a", "do read a", "do close a"], door(), "nnnn"),
    (["open a"], (1, ["open"], [[1], [None]]), "nn"),
    # What follows on `read` asks for the rooms; each change of one is seen.
    (["open a", "do close a", "do read a"], door(), "ssln"),
    (["open a", "do read a", "do close a", "do close a"], door(), "snsln"),
    (["open a", "do x a", "do read a", "do read a"], barring(1, "read"), "nnlnn"),
    # The new handle: it breaks the rule, comes to another room, or stays in room 0.
    (["open a", "do x a"], barring(1, "open"), "lnn"),
    (["open a", "do x a"], (1, ["open", "x"], [[1, 0], [1, None]]), "sln"),
    (["open a", "do x a"], (1, ["open", "x"], [[0, None]]), "nln"),
    (["open a", "do x a"], barring(1, "x"), "nln"),
    # Behind a deed that no handle does nothing is asked.
    (["open a", "drop a", "do x a"], barring(1, "x"), "nnnn"),
    (["open a", "do x b", "do x a"], barring(1, "x"), "nnln"),
    # At the end there is a look, or nothing, though rooms are changed there.
    (["open a"], barring(1, "end"), "nl"),
    (["open a", "do x a"], (1, ["end", "x"], [[1, None], [None, None]]), "nln"),
    (["open a", "do x a"], (1, ["end", "x"], [[0, 1], [None, 0]]), "nsl"),
    # Of two ways one breaks it.
    (["open a", "if 0", "do close a", "else", "fi", "do read a"], door(), "snsnln"),
    (["open a", "while 0", "do go a", "done"], steps_rule(3, None), "nnlnn"),
    # Lends: their rows are `copy`, `do lend`, `copy`, `do back`, `drop`, `drop`.
    (["open a", "lend a b", "do x b", "back"], (1, ["back", "lend", "x"], [[0, 1, 0], [0, 1, None]]), "nnsnlnnnn"),
    (["open a", "lend a b", "back"], barring(1, "back"), "nnnnlnnn"),
    # Ties; two handles that aren't tied have no room.
    (["open a", "open b", "tie a b", "do open a", "do read b", "do close a", "do read b"], lease(), "nnnsnsln"),
    (["open a", "open b", "do open a", "do read b"], lease(), "nnnnn"),
    (["open a", "open b", "tie a b"], barring(2, "1.open", "2.open"), "nnnn"),
    (["open a", "open b", "tie a b", "do open b"], barring(2, "1.open", "2.open"), "nnnln"),
    (["open a", "open b", "tie a b"], (2, ["1.end", "2.end"], [[1, None], [1, 1]]), "nnnn"),
    (["open a", "open b", "tie b a"], (2, ["1.end", "2.end"], [[1, None], [1, 1]]), "nnnl"),
]


def marks_of(letters):
    return [{"l": "look", "s": "step", "n": "none"}[letter] for letter in letters]


class Columns(unittest.TestCase):
    def check(self, code, rule):
        """Whether the column is the one by the document's words, is let by, and no less of it is."""
        paper = paper_of(code, rule)
        column = column_of(code, rule)
        self.assertEqual(column, column_by_words(code, rule, paper), (code, rule))
        self.assertIs(is_closed(code, rule, paper), True)
        self.assertIs(lets_by(code, rule, paper, column), True)
        return paper, column

    def test_columns_that_are_known(self):
        for lines, rule, letters in COLUMNS:
            code = code_of(read_program("\n".join(lines)))
            self.assertEqual(column_of(code, rule), marks_of(letters), (lines, rule))
            self.assertEqual(self.check(code, rule)[1], marks_of(letters))
            self.check(turned_code(read_program("\n".join(lines))), rule)

    def test_turned_code_has_looks_where_the_round_needs_them(self):
        # From the second round on `close` breaks the rule, in the first one it doesn't.
        program = read_program("open a\nwhile 0\ndo close a\ndone")
        self.assertEqual(column_of(code_of(program), door()), marks_of("snlnn"))
        self.assertEqual(turned_code(program)[2], turned_code(program)[4])
        self.assertEqual(column_of(turned_code(program), door()), marks_of("snsnlnn"))

    def test_with_one_row_otherwise(self):
        chance = random.Random(2701)
        cases = [(code_of(read_program("\n".join(lines))), rule) for lines, rule, letters in COLUMNS]
        cases += list(codes_by_chance(chance, 60))
        seen = set()
        for code, rule in cases:
            paper, column = self.check(code, rule)
            for at, mark in enumerate(column):
                for other in {"look", "step", "none"} - {mark}:
                    let = lets_by(code, rule, paper, column[:at] + [other] + column[at + 1:])
                    seen.add((mark, other, let))
                    # Where there is a look, no less than the column told is let by, and more of it is.
                    if "look" in column:
                        more = ["none", "step", "look"].index(other) > ["none", "step", "look"].index(mark)
                        self.assertIs(let, more, (code, rule, at, other))
        self.assertEqual(seen, {
            ("look", "step", False), ("look", "none", False), ("step", "look", True), ("step", "none", False),
            ("none", "look", True), ("none", "step", True), ("none", "look", False), ("none", "step", False)})

    def test_small_programs(self):
        for code, rule in small_codes():
            self.check(code, rule)

    def test_by_chance(self):
        chance = random.Random(2702)
        seen = set()
        for code, rule in codes_by_chance(chance, 300):
            paper, column = self.check(code, rule)
            self.assertEqual(paper, least_by_turns(code, rule))
            self.assertTrue(closed_by_words(code, rule, paper) and let_by_words(code, rule, paper, column))
            seen.update((rule[0], row[0], mark) for row, mark in zip(code, column, strict=True))
        marks = {(kind, mark) for sides, kind, mark in seen}
        self.assertEqual(marks - {(kind, "none") for kind, mark in marks}, {
            ("open", "look"), ("open", "step"), ("do", "look"), ("do", "step"), ("end", "look")})
        self.assertEqual({kind for sides, kind, mark in seen if sides == 2 and mark == "look"}, {"do", "end"})

    def test_codes_and_rules_at_the_bounds(self):
        chance = random.Random(2703)
        for code, rule in great_codes(chance):
            self.check(code, rule)

    def test_rules_that_nothing_breaks(self):
        for code in all_codes(sixty_lines()):
            for rule in (free(1), free(2), (1, ["read", "write"], [[1, 2], [2, 0], [0, 1]]), (2, ["1.write"], [[1], [0]])):
                self.assertEqual(column_of(code, rule), ["none" for row in code])

    def test_what_is_told_is_the_askers_own(self):
        for lines, rule, other in PAPERS + COLUMNS:
            for code in all_codes(read_program("\n".join(lines))):
                check_own(self, column_of, code, rule)
        check_own(self, column_of, turned_code(sixty_lines()), lease())


if __name__ == "__main__":
    unittest.main()
