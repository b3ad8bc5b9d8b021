"""Kept runs: with columns that are let by they are as the watched run [2, 15, 18, 19, 20, 25, 28]."""

import copy
import itertools
import random
import unittest

from helpers import (
    SIXTEEN, SIXTEEN_SIDED, all_codes, all_tokens, barring, breach_by_rows, check_own, column_by_words, door, fields_of, free,
    inputs_near, lease, least_by_turns, log_by_lines, outcome_by_log, random_inputs, ring_rule, ruled_programs, rules_by_chance,
    rows_that_break, rows_that_move, sixty_lines, slots_of_code, spoil, steps_rule, told_by, told_by_lines,
)
from test_columns import COLUMNS, marks_of
from test_coderuns import BY_ROWS
from test_plainruns import RUNS, small_inputs, small_programs, takes_inputs
from test_watched import WATCHED
from usewarden.checker import lets_by
from usewarden.coderuns import run_code
from usewarden.codes import code_of, turned_code
from usewarden.columns import column_of
from usewarden.errors import Breach, UseError
from usewarden.keptruns import run_kept
from usewarden.papers import paper_of
from usewarden.programs import lines_of
from usewarden.progtexts import read_program
from usewarden.watched import run_watched

MARKS = ["none", "step", "look"]
MORE = 10 ** 61 - 1


def outcome(code, rules, columns, inputs):
    """What a kept run tells: its log, or the fields of its refusal."""
    return told_by(run_kept, code, rules, columns, inputs)


def columns_of(code, rules):
    """The columns of the code and each of the rules."""
    return [column_of(code, rule) for name, rule in rules]


def looks_alone(code, rules):
    """For each of the rules a column of looks alone."""
    return [["look" for row in code] for named in rules]


def raised(chance, column, share):
    """The column with some of its marks, by chance, raised: from `none` to `step` or `look`, from `step` to `look`."""
    return [chance.choice(MARKS[MARKS.index(mark):]) if chance.random() < share else mark for mark in column]


def least_kept(code, rule, paper):
    """The least column by which rooms are kept, be there a look or not."""
    breaks, moves = rows_that_break(code, rule, paper), rows_that_move(code, rule, paper)
    return ["look" if at in breaks else "step" if at in moves else "none" for at in range(len(code))]


def greater_paper(chance, code, rule):
    """A closed paper with a few more tokens than the least one, or with none more."""
    tokens = all_tokens(rule[0], min(slots_of_code(code), 2), len(rule[2]))
    begun = [(chance.randrange(len(code)), chance.choice(tokens)) for turn in range(chance.randrange(3))]
    return least_by_turns(code, rule, begun)


class Kept(unittest.TestCase):
    def check(self, code, rules, columns, inputs, told):
        self.assertEqual(outcome(code, rules, columns, inputs), told, (code, rules, columns, inputs))

    def check_let_by(self, code, rules, columns, inputs, told):
        """The same, of columns that the checker lets by with the papers of the rules."""
        for (name, rule), column in zip(rules, columns, strict=True):
            self.assertTrue(lets_by(code, rule, paper_of(code, rule), column))
        self.check(code, rules, columns, inputs, told)

    def test_runs_that_are_known(self):
        for lines, rules, inputs, told in WATCHED:
            for code in all_codes(read_program("\n".join(lines))):
                self.check_let_by(code, rules, columns_of(code, rules), inputs, told)
                self.check_let_by(code, rules, looks_alone(code, rules), inputs, told)

    def test_columns_that_are_known(self):
        for lines, rule, letters in COLUMNS:
            program = read_program("\n".join(lines))
            rules = [("rule", rule)]
            for inputs in ([], [1], [1, 1], [1, 1, 1, 1], [0, 1], [MORE, -MORE], [-MORE, MORE]):
                told = told_by_lines(program, rules, inputs)
                self.check_let_by(code_of(program), rules, [marks_of(letters)], inputs, told)

    def test_without_rules_it_is_the_plain_run(self):
        for program, inputs, log in RUNS:
            for code in all_codes(program):
                self.check(code, [], [], inputs, log)
        for code, inputs, log in BY_ROWS:
            self.check(code, [], [], inputs, log)

    def test_codes_written_by_hand(self):
        rules = [("noend", barring(1, "end")), ("tied", barring(2, "1.end"))]
        for code, inputs, log in BY_ROWS:
            told = outcome_by_log(breach_by_rows(rules, log), log)
            self.check(code, rules, columns_of(code, rules), inputs, told)
            self.check(code, rules, looks_alone(code, rules), inputs, told)

    def test_at_first_a_room_is_nought_whatever_the_column_says(self):
        # The `open` leads nowhere else: without a mark there the room is 0 all the same, and `x` is looked at from there.
        rule = (1, ["open", "x"], [[0, None]])
        code = code_of(read_program("open a\ndo x a"))
        told = ("x", 1, [0], ["open", "x"], [(0, 0, "open", 0)])
        for mark in MARKS:
            self.check_let_by(code, [("x", rule)], [[mark, "look", "none"]], [], told)
        # A tie begins in room 0, whatever is done at the row of the tie.
        code = code_of(read_program("open a\nopen b\ntie a b\ndo x b"))
        log = [(0, 0, "open", 0), (1, 1, "open", 0), (2, 0, 1)]
        for mark in MARKS:
            columns = [["none", "none", mark, "look", "none"]]
            self.check_let_by(code, [("x", barring(2, "2.x"))], columns, [], ("x", 3, [0, 1], ["2.x"], log))

    def test_each_mark_does_what_it_is_for(self):
        # `x` may be done once. Without its mark it isn't counted; with `step` it is, and the next one is seen.
        code = code_of(read_program("open a\ndo x a\ndo x a"))
        rules = [("once", (1, ["x"], [[1], [None]]))]
        log = [(0, 0, "open", 0), (1, 0, "x", 0), (2, 0, "x", 0), (3, 0, "end", 0)]
        broken = ("once", 2, [0], ["open", "x", "x"], log[:2])
        for first, second, told in (
                ("look", "look", broken), ("step", "look", broken), ("none", "look", log), ("look", "none", log),
                ("step", "none", log), ("none", "none", log), ("none", "step", log)):
            self.check(code, rules, [["none", first, second, "none"]], [], told)
        # At the end, too.
        code = code_of(read_program("open a"))
        self.check(code, [("noend", barring(1, "end"))], [["look", "none"]], [], [(0, 0, "open", 0), (1, 0, "end", 0)])
        self.check(code, [("noend", barring(1, "end"))], [["none", "look"]], [], ("noend", 1, [0], ["open", "end"], log[:1]))

    def test_marks_are_those_of_the_row_not_of_the_line(self):
        # In turned code one line has several rows.
        program = read_program("open a\nwhile 0\ndo close a\ndone")
        rules = [("door", door())]
        columns = [marks_of("snsnlnn")]
        self.check_let_by(turned_code(program), rules, columns, [1], told_by_lines(program, rules, [1]))
        told = ("door", 2, [0], ["open", "close", "close"], [(0, 0, "open", 0), (2, 0, "close", 7)])
        self.check_let_by(turned_code(program), rules, columns, [7, 8, 9], told)

    def test_each_rule_has_its_own_column(self):
        code = code_of(read_program("open a\ndo x a\ndo y a"))
        rules = [("x", barring(1, "x")), ("y", barring(1, "y"))]
        log = [(0, 0, "open", 0), (1, 0, "x", 0), (2, 0, "y", 0), (3, 0, "end", 0)]
        looks, off = ["look"] * 4, ["none"] * 4
        self.check(code, rules, [looks, off], [], ("x", 1, [0], ["open", "x"], log[:1]))
        self.check(code, rules, [off, looks], [], ("y", 2, [0], ["open", "x", "y"], log[:2]))
        self.check(code, rules, [off, off], [], log)

    def test_all_rules_are_looked_at_ahead_of_the_deed(self):
        # The second one breaks: the first, which would go on by the same deed, is the same when it is looked at again.
        program = read_program("open a\nopen b\ntie a b\nwhile 0\ndo x b\ndone")
        rules = [("twice", (1, ["x"], [[1], [2], [None]])), ("once", (2, ["2.x"], [[1], [None]])), ("never", barring(2, "2.x"))]
        for inputs in ([1], [1, 1], [1, 1, 1]):
            for chosen in itertools.chain(itertools.permutations(rules), itertools.permutations(rules, 2)):
                for code in all_codes(program):
                    told = told_by_lines(program, list(chosen), inputs)
                    self.check_let_by(code, list(chosen), columns_of(code, chosen), inputs, told)

    def test_small_programs(self):
        rules = [
            ("door", (1, ["end", "open", "z"], [[0, 1, None], [None, None, 2], [0, 0, 1]])),
            ("tied", (2, ["1.z", "2.end", "2.z"], [[1, 0, None], [1, 1, 0]])),
        ]
        for program in small_programs():
            for code in all_codes(program):
                columns = columns_of(code, rules)
                for inputs in small_inputs() if takes_inputs(program) else [[]]:
                    told = told_by_lines(program, rules, inputs)
                    self.check(code, rules, columns, inputs, told)
                    self.check(code, rules[1:], columns[1:], inputs, told_by_lines(program, rules[1:], inputs))

    def test_by_chance(self):
        chance = random.Random(2801)
        found = {True: 0, False: 0}
        seen = set()
        for program, rules in ruled_programs(chance, 250, 8):
            codes = [(code, columns_of(code, rules)) for code in all_codes(program)]
            for turn in range(3):
                inputs = random_inputs(chance, program, 9)
                told = told_by_lines(program, rules, inputs)
                found[isinstance(told, tuple)] += 1
                for code, columns in codes:
                    seen.update(mark for column in columns for mark in column)
                    self.check(code, rules, columns, inputs, told)
                    self.check(code, rules, looks_alone(code, rules), inputs, told)
        self.assertGreater(min(found.values()), 150, found)
        self.assertEqual(seen, set(MARKS))

    def test_whatever_columns_are_let_by(self):
        chance = random.Random(2802)
        found = {True: 0, False: 0}
        told_apart = 0
        for program, rules in ruled_programs(chance, 150, 4):
            code = chance.choice(all_codes(program))
            if len(code) > 60:
                continue
            for turn in range(4):
                columns = []
                for name, rule in rules:
                    paper = greater_paper(chance, code, rule)
                    column = chance.choice([column_by_words, least_kept])(code, rule, paper)
                    if column != column_by_words(code, rule, paper) or "look" in column:
                        column = raised(chance, column, chance.choice([0, 0.2, 0.9]))
                    self.assertTrue(lets_by(code, rule, paper, column))
                    told_apart += column != column_of(code, rule)
                    columns.append(column)
                inputs = random_inputs(chance, program, 9)
                told = told_by_lines(program, rules, inputs)
                found[isinstance(told, tuple)] += 1
                self.check_let_by(code, rules, columns, inputs, told)
        self.assertGreater(min(found.values()), 100, found)
        self.assertGreater(told_apart, 200)

    def test_all_columns_of_a_small_code(self):
        # Each of all columns: whichever are let by, the run is as the watched one, with all inputs of 0 and 1.
        let = 0
        for lines, rules in (
                (["open a", "while 0", "do x a", "done"], [("few", (1, ["end", "x"], [[0, 1], [0, None]]))]),
                (["open a", "if 0", "do x a", "else", "fi"], [("end", (1, ["end", "x"], [[None, 1], [1, 1]]))]),
                (["open a", "open b", "tie b a", "do x a"], [("tied", (2, ["1.end", "2.x"], [[0, 1], [None, 1]]))])):
            program = read_program("\n".join(lines))
            code = code_of(program)
            paper = paper_of(code, rules[0][1])
            for column in itertools.product(MARKS, repeat=len(code)):
                if lets_by(code, rules[0][1], paper, list(column)):
                    let += 1
                    for inputs in ([], [0], [1], [1, 0], [1, 1], [1, 1, 1]):
                        self.check(code, rules, [list(column)], inputs, told_by_lines(program, rules, inputs))
        self.assertGreater(let, 50)

    def test_a_program_as_great_as_one_may_be(self):
        program = sixty_lines()
        words = ["deep", "third", "loop", "other", "second", "first", "read", "write", "open", "end", "lend", "back"]
        chance = random.Random(2803)
        found = {True: 0, False: 0}
        for turn in range(25):
            rules = []
            while len(rules) < 8:
                rules = rules_by_chance(chance, words, 8)
            rules = rules[:chance.choice([1, 2, 8])]
            for code in all_codes(program):
                columns = columns_of(code, rules)
                for count in (0, 1, 20, 80):
                    inputs = [chance.choice([-1, 1, 2, 2, 2]) for place in range(count)]
                    told = told_by(run_watched, code, rules, inputs)
                    found[isinstance(told, tuple)] += 1
                    self.check(code, rules, columns, inputs, told)
        self.assertGreater(min(found.values()), 20, found)

    def test_rules_as_great_as_may_be(self):
        chance = random.Random(2804)
        program = [("open", "a"), ("open", "b"), ("tie", "a", "b"), ("while", 0, [
            ("if", place, [("do", "abcdefgh"[place], "ab"[place % 2])], []) for place in range(8)])]
        found = set()
        for turn in range(10):
            rules = []
            for sides, words in ((1, SIXTEEN), (2, SIXTEEN_SIDED)):
                rooms = [[None if chance.random() < 0.01 else chance.randrange(60) for word in words] for room in range(60)]
                rules.append(("xy"[sides - 1], (sides, list(words), rooms)))
            for code in all_codes(program):
                inputs = [chance.randrange(1, 10) for place in range(150)]
                told = told_by(run_watched, code, rules, inputs)
                found.add(told.__class__)
                self.check_let_by(code, rules, columns_of(code, rules), inputs, told)
        self.assertEqual(found, {list, tuple})

    def test_many_inputs(self):
        program = [("open", "a"), ("open", "b"), ("tie", "a", "b"), ("while", 0, [("do", "turn", "a"), ("do", "look", "b")])]
        rules = [("ring", ring_rule(60, "turn", "end", 7)), ("tied", ring_rule(59, "1.turn", "2.end", 8))]
        code = turned_code(program)
        columns = columns_of(code, rules)
        for count in (20000, 60 * 300 + 7, 59 * 300 + 8):
            inputs = [9] * count + [0] * 5
            told = told_by(run_watched, code, rules, inputs)
            self.assertEqual(isinstance(told, tuple), count != 20000)
            self.check(code, rules, columns, inputs, told)

    def test_inputs_at_the_bounds(self):
        great = 10 ** 60 - 1
        for bound in (0, -1, great, -great):
            program = [("open", "a"), ("while", bound, [("do", "x", "a")])]
            rules = [("once", (1, ["x"], [[1], [None]]))]
            for inputs in inputs_near(bound):
                for code in all_codes(program):
                    told = told_by_lines(program, rules, inputs)
                    self.check_let_by(code, rules, columns_of(code, rules), inputs, told)

    def test_the_refusal_is_a_breach(self):
        with self.assertRaises(Breach) as caught:
            run_kept([("open", 4, 0), ("end", 5)], [("noopen", barring(1, "open"))], [["look", "none"]], [])
        self.assertIsInstance(caught.exception, UseError)
        self.assertEqual(fields_of(caught.exception), ("noopen", 4, [0], ["open"], []))

    def test_nothing_handed_in_is_changed_and_what_is_told_is_the_askers_own(self):
        for lines, rules, inputs, told in WATCHED:
            for code in all_codes(read_program("\n".join(lines))):
                check_own(self, outcome, code, rules, columns_of(code, rules), inputs)
        for program, inputs, log in RUNS:
            rules = [("door", door()), ("lease", lease()), ("free", free(1))]
            check_own(self, outcome, code_of(program), rules, columns_of(code_of(program), rules), inputs)

    def test_what_a_refusal_bears_hangs_on_no_other_one(self):
        code = code_of(read_program("open a\nopen b\ntie a b\ndo read b"))
        rules = [("lease", lease())]
        columns = columns_of(code, rules)
        caught = []
        for turn in range(2):
            try:
                run_kept(code, rules, columns, [])
            except Breach as breach:
                caught.append(breach)
        first = copy.deepcopy(fields_of(caught[0]))
        spoil(fields_of(caught[1]))
        self.assertEqual(fields_of(caught[0]), first)
        spoil((code, rules, columns))
        self.assertEqual(fields_of(caught[0]), first)

    def test_other_runs_are_as_they_were(self):
        for lines, rules, inputs, told in WATCHED:
            code = code_of(read_program("\n".join(lines)))
            outcome(code, rules, columns_of(code, rules), inputs)
            self.assertEqual(run_code(code, inputs), log_by_lines(lines, inputs))
            self.assertEqual(told_by(run_watched, code, rules, inputs), told)

    def test_rules_that_nothing_breaks_are_off_wholly(self):
        for rule in (free(1), free(2), steps_rule(60, 0)):
            for code in all_codes(sixty_lines()):
                off = ["none" for row in code]
                self.assertEqual(column_of(code, rule), off)
                for inputs in ([], [2] * 9, [2, 2, -1, 2, -1, 2, 2]):
                    self.check_let_by(code, [("free", rule)], [off], inputs, run_code(code, inputs))
        self.assertEqual(len(lines_of(sixty_lines())), 60)


if __name__ == "__main__":
    unittest.main()
