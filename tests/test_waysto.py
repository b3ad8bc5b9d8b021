"""Ways to rows: inputs with which a run comes there and breaks the rule [2, 15, 16, 17, 23, 24, 26]."""

import itertools
import random
import unittest

from helpers import (
    all_codes, barring, check_own, codes_by_chance, door, filled, free, great_codes, lease, lines_broken, random_steps,
    rarely_broken, ring_rule, rows_broken, rows_that_break, sided, sixty_lines, steps_rule, with_bound_nought,
)
from test_columns import COLUMNS
from test_papers import small_codes
from usewarden.coderuns import run_code
from usewarden.codes import code_of, turned_code
from usewarden.papers import paper_of
from usewarden.programs import is_program, lines_of
from usewarden.progtexts import read_program
from usewarden.waysto import way_to


class Ways(unittest.TestCase):
    def check_way(self, code, rule, at, inputs, most):
        """Whether a run with the inputs breaks the rule at the row, for what kept it till then."""
        self.assertIs(inputs.__class__, list)
        self.assertTrue(all(number.__class__ is int and abs(number) < 10 ** 61 for number in inputs))
        self.assertLessEqual(len(inputs), most)
        self.assertIn(at, rows_broken(code, rule, inputs), (code, rule, at, inputs))
        self.assertIn(code[at][1], lines_broken(run_code(code, inputs), [rule]))

    def check(self, code, rule):
        """Whether ways are told just to those rows where something breaks the rule; tell them."""
        paper = paper_of(code, rule)
        breaks = rows_that_break(code, rule, paper)
        most = len(code) + sum(len(tokens) for tokens in paper)
        ways = {}
        for at in range(len(code)):
            inputs = way_to(code, rule, at)
            if at in breaks:
                self.check_way(code, rule, at, inputs, most)
                ways[at] = inputs
            else:
                self.assertIsNone(inputs, (code, rule, at))
        return ways

    def test_the_rows_with_a_look(self):
        for lines, rule, letters in COLUMNS:
            program = read_program("\n".join(lines))
            ways = self.check(code_of(program), rule)
            self.assertEqual(sorted(ways), [at for at, letter in enumerate(letters) if letter == "l"])
            self.check(turned_code(program), rule)

    def test_ways_without_inputs(self):
        # Where there is nothing to take, there is but this way.
        for lines, rule, at in (
                (["open a"], barring(1, "open"), 0), (["open a", "do x a"], barring(1, "x"), 1),
                (["open a"], barring(1, "end"), 1),
                (["open a", "open b", "tie a b", "do x b"], barring(2, "2.x"), 3),
                (["open a", "open b", "tie a b"], barring(2, "2.end"), 3)):
            self.assertEqual(way_to(code_of(read_program("\n".join(lines))), rule, at), [])
            self.assertIsNone(way_to(code_of(read_program("\n".join(lines))), free(rule[0]), at))

    def test_bounds(self):
        # Just by the bound: one that is more, of sixty-one figures perhaps, and one that isn't.
        great = 10 ** 60 - 1
        for bound in (0, -1, 7, -great, great):
            program = [("if", bound, [("open", "a"), ("do", "x", "a")], [("open", "b"), ("do", "y", "b")])]
            self.assertTrue(is_program(program))
            more = self.check(code_of(program), barring(1, "x"))
            self.assertEqual(list(more), [2])
            self.assertGreater(more[2][0], bound)
            less = self.check(code_of(program), barring(1, "y"))
            self.assertEqual(list(less), [5])
            self.assertTrue(all(number <= bound for number in less[5]))
        # Each test is asked with its own bound.
        bounds = [5, -3, great, 0, -great, 12]
        steps = [("open", "a"), ("do", "x", "a")]
        for turn, bound in enumerate(bounds):
            steps = [("if", bound, steps, []) if turn % 2 else ("if", bound, [], steps)]
        for code in all_codes([*steps, ("while", 3, steps)]):
            ways = self.check(code, barring(1, "x"))
            self.assertEqual(sorted(ways), [at for at, row in enumerate(code) if row[0] == "do"])

    def test_many_rounds(self):
        program = read_program("open a\nopen b\ntie a b\nwhile 0\ndo go b\ndone")
        for rule in (steps_rule(60, None), sided(steps_rule(60, None))):
            self.assertEqual(self.check(code_of(program), rule)[4], [1] * 60)
            ways = self.check(turned_code(program), rule)
            self.assertEqual(ways[6], [1] * 60)
            self.assertNotIn(4, ways)
        # Two rings that meet after many rounds alone.
        program = read_program("open a\nwhile 0\nif 0\ndo turn a\nelse\ndo stop a\nfi\ndone")
        for where in (0, 1, 59):
            self.assertEqual(self.check(code_of(program), ring_rule(60, "turn", "stop", where))[5], [1, 1] * where + [1, 0])

    def test_the_handle_of_a_later_round(self):
        # Only a handle that isn't held any more, and an older one, come to the end in these rooms.
        program = read_program("while 0\nopen a\nwhile 0\ndo go a\ndone\ndone")
        for count in (1, 2, 5):
            rooms = [[None if at == count else at, min(at + 1, count + 1)] for at in range(count + 2)]
            ways = self.check(code_of(program), (1, ["end", "go"], rooms))
            self.assertEqual(list(ways), [len(code_of(program)) - 1])
            self.assertEqual(sum(ways[6]), count + 1)

    def test_a_row_that_is_broken_ahead_already_by_another(self):
        # The run is the plain one: what an older handle broke doesn't stop it.
        program = read_program("open a\ndo x a\nopen a\ndo y a\ndo x a\nopen b\ntie a b\ndo x a")
        ways = self.check(code_of(program), barring(1, "x", "y"))
        self.assertEqual(ways, {1: [], 3: []})
        ways = self.check(code_of(program), (1, ["open", "x"], [[1, 0], [1, None]]))
        self.assertEqual(ways, {1: [], 4: []})
        ways = self.check(code_of(program), barring(2, "1.x"))
        self.assertEqual(ways, {7: []})

    def test_small_programs(self):
        for code, rule in small_codes():
            self.check(code, rule)

    def test_no_inputs_break_it_elsewhere(self):
        # All inputs of 0 and 1 gone through: they break the rule just at the rows to which ways are told.
        chance = random.Random(2601)
        count = 0
        while count < 150:
            program = with_bound_nought([("open", "a"), *random_steps(chance, ["a", "b", "c"], 2, 4)])
            lines = [line.split(" ")[0] for line in lines_of(program)]
            if "while" in lines or lines.count("if") > 6:
                continue
            count += 1
            rule = rarely_broken(chance, chance.choice([1, 2]), ["open", "do", "back", "z", "lend", "end"], 3)
            for code in all_codes(program):
                broken = set()
                for inputs in itertools.product([0, 1], repeat=lines.count("if")):
                    broken |= rows_broken(code, rule, inputs)
                self.assertEqual(sorted(self.check(code, rule)), sorted(broken))

    def test_no_inputs_by_chance_break_it_elsewhere(self):
        chance = random.Random(2602)
        for code, rule in codes_by_chance(chance, 100, False):
            ways = [way_to(code, rule, at) for at in range(len(code))]
            for turn in range(5):
                for at in rows_broken(code, rule, [chance.choice([0, 1, 1]) for place in range(9)]):
                    self.assertIsNotNone(ways[at])

    def test_by_chance(self):
        chance = random.Random(2603)
        seen = set()
        longest = 0
        for code, rule in codes_by_chance(chance, 300):
            ways = self.check(code, rule)
            seen.update((rule[0], code[at][0]) for at in ways)
            longest = max([longest, *[len(inputs) for inputs in ways.values()]])
        self.assertEqual(seen, {(1, "open"), (1, "do"), (1, "end"), (2, "do"), (2, "end")})
        self.assertGreater(longest, 5)

    def test_codes_and_rules_at_the_bounds(self):
        chance = random.Random(2604)
        count = 0
        for code, rule in great_codes(chance):
            count += len(self.check(code, rule))
        self.assertGreater(count, 30)

    def test_blocks_within_one_another(self):
        for kind in ("if", "else", "while"):
            program = filled(kind, 8, [("open", "a"), ("do", "x", "a")])
            self.assertTrue(is_program(program))
            for code in all_codes(program):
                ways = self.check(code, barring(1, "x"))
                self.assertEqual([code[at][0] for at in ways], ["do"] * sum(row[0] == "do" for row in code))

    def test_a_paper_of_very_many_tokens(self):
        steps = [("if", 0, [("copy", x, y)], []) for x in "abcd" for y in "abcd" if x != y]
        steps = [("if", 0, [("open", "a")], [("do", "go", "b")]), ("tie", "a", "b"), ("tie", "b", "c"), *steps]
        code = code_of([("while", 0, steps)])
        rule = (2, ["1.go"], [[at + 1] for at in range(9)] + [[None]])
        inputs = way_to(code, rule, 4)
        self.check_way(code, rule, 4, inputs, len(code) + sum(len(tokens) for tokens in paper_of(code, rule)))
        self.assertIsNone(way_to(code, rule, len(code) - 1))

    def test_what_is_told_is_the_askers_own(self):
        for lines, rule, letters in COLUMNS:
            for code in all_codes(read_program("\n".join(lines))):
                for at in range(len(code)):
                    check_own(self, way_to, code, rule, at)
        code = turned_code(sixty_lines())
        for rule in (door(), lease(), barring(1, "write"), barring(2, "2.write")):
            for at in (0, len(code) - 2, len(code) - 1):
                check_own(self, way_to, code, rule, at)


if __name__ == "__main__":
    unittest.main()
