"""What the document promises over the whole program, and its interface [1, 2, 3, 4, interface]."""

import ast
import copy
import importlib
import inspect
import os
import pathlib
import random
import subprocess
import sys
import unittest

from helpers import (
    SIXTEEN, all_codes, barring, door, lease, log_by_lines, random_inputs, rarely_broken, ruled_programs, rules_by_chance,
    sixty_lines, steps_rule, told_by,
)
from usewarden.checker import is_closed, lets_by
from usewarden.codes import code_of, turned_code
from usewarden.columns import column_of
from usewarden.errors import TooGreat
from usewarden.follows import needed_rules, row_apart
from usewarden.guards import guard_of, inputs_to, looks_of, run_guarded
from usewarden.joins import joined_rule
from usewarden.keptruns import run_kept
from usewarden.laid import laid_rules
from usewarden.leastrules import least_rule
from usewarden.lists import read_rules, show_rules
from usewarden.papers import paper_of
from usewarden.plainruns import run_plain
from usewarden.programs import is_program, lines_of
from usewarden.progtexts import read_program, show_program
from usewarden.reports import report
from usewarden.rules import room_after
from usewarden.watched import run_watched

ROOT = pathlib.Path(__file__).resolve().parent.parent

# The functions of each module, with their arguments.
INTERFACE = {
    "rules": ["is_word(thing)", "is_rule(thing)", "copied_rule(thing)", "room_after(rule, row)"],
    "ruletexts": ["show_rule(rule)", "read_rule(text)"],
    "leastrules": ["least_rule(rule)"],
    "joins": ["joined_rule(one, other)", "either_rule(one, other)"],
    "follows": ["row_apart(other, one)", "needed_rules(rules)"],
    "programs": ["is_program(thing)", "lines_of(program)", "names_of(program)"],
    "progtexts": ["show_program(program)", "read_program(text)"],
    "plainruns": ["run_plain(program, inputs)"],
    "codes": ["code_of(program)", "turned_code(program)"],
    "coderuns": ["run_code(code, inputs)"],
    "breaches": ["breach_in(rules, log)"],
    "watches": [],
    "watched": ["run_watched(code, rules, inputs)"],
    "tokens": [
        "begins_at(code, rule, at, tokens)", "behind_at(code, rule, at, token)", "breaks_at(code, rule, at, token)",
        "rows_behind(code, at)",
    ],
    "papers": ["paper_of(code, rule)"],
    "checker": ["is_closed(code, rule, paper)", "lets_by(code, rule, paper, column)"],
    "waysto": ["way_to(code, rule, at)"],
    "columns": ["column_of(code, rule)"],
    "keptruns": ["run_kept(code, rules, columns, inputs)"],
    "laid": ["laid_rules(rules)"],
    "guards": ["guard_of(program, rules)", "run_guarded(guard, inputs)", "looks_of(guard)", "inputs_to(guard, line)"],
    "shortest": ["shortest_breach(rule, row)"],
    "lists": ["show_rules(rules)", "read_rules(text)"],
    "reports": ["report(rules, program, inputs)"],
}

# Tells much of what can be told, so that two Pythons, or two runs of one, can be compared.
SCRIPT = """
import random
from helpers import codes_by_chance, random_inputs, ruled_programs, told_by
from usewarden.codes import code_of
from usewarden.columns import column_of
from usewarden.errors import TooGreat
from usewarden.follows import needed_rules
from usewarden.guards import guard_of, inputs_to, looks_of, run_guarded
from usewarden.joins import either_rule, joined_rule
from usewarden.leastrules import least_rule
from usewarden.lists import show_rules
from usewarden.papers import paper_of
from usewarden.progtexts import show_program
from usewarden.reports import report
from usewarden.waysto import way_to

chance = random.Random(401)
for program, rules in ruled_programs(chance, 25, 4):
    print(show_program(program), show_rules(rules), needed_rules(rules), [least_rule(rule) for name, rule in rules])
    try:
        guard = guard_of(program, rules)
    except TooGreat:
        continue
    inputs = random_inputs(chance, program, 9)
    print(told_by(run_guarded, guard, inputs), [(line, inputs_to(guard, line)) for line in looks_of(guard)])
    print(report(show_rules(rules), show_program(program), inputs))
for code, rule in codes_by_chance(chance, 15):
    print(paper_of(code, rule), column_of(code, rule), [way_to(code, rule, at) for at in range(len(code))])
    print(joined_rule(rule, rule), either_rule(rule, rule))
"""


def printed(seed):
    """What the script prints, where the order of Python's sets hangs on that seed."""
    paths = os.pathsep.join([str(ROOT), str(ROOT / "tests")])
    settings = {**os.environ, "PYTHONHASHSEED": seed, "PYTHONPATH": paths, "PYTHONDONTWRITEBYTECODE": "1"}
    done = subprocess.run([sys.executable, "-c", SCRIPT], env=settings, capture_output=True, text=True, check=True)
    return done.stdout


class Interface(unittest.TestCase):
    def test_each_function_is_there_with_its_arguments(self):
        for module, functions in INTERFACE.items():
            drawn = importlib.import_module("usewarden." + module)
            for text in functions:
                name, arguments = text[:-1].split("(")
                self.assertEqual(list(inspect.signature(getattr(drawn, name)).parameters), arguments.split(", "), text)

    def test_no_module_draws_from_outside(self):
        for path in (ROOT / "usewarden").glob("*.py"):
            for node in ast.walk(ast.parse(path.read_text(encoding="utf-8"))):
                self.assertNotIsInstance(node, ast.Import)
                if isinstance(node, ast.ImportFrom):
                    self.assertTrue(node.module.startswith("usewarden."), path)


class Promise(unittest.TestCase):
    def check(self, program, rules, inputs):
        """Whether the watched run is the plain one up to the first deed that breaks a rule, and all other runs are as it."""
        plain = run_plain(program, inputs)
        self.assertEqual(plain, log_by_lines(lines_of(program), inputs))
        told = told_by(run_watched, code_of(program), rules, inputs)
        if isinstance(told, list):
            self.assertEqual(told, plain)
        else:
            self.check_stopped(plain, rules, told)
        needed = needed_rules(rules)
        for code in all_codes(program):
            for chosen in (rules, needed):
                columns = [column_of(code, rule) for name, rule in chosen]
                self.assertEqual(told_by(run_watched, code, chosen, inputs), told)
                self.assertEqual(told_by(run_kept, code, chosen, columns, inputs), told)
        try:
            self.assertEqual(told_by(run_guarded, guard_of(program, rules), inputs), told)
        except TooGreat:
            self.assertGreater(len(rules), 1)
        return told

    def check_stopped(self, plain, rules, told):
        """Whether a run was stopped just where the plain one goes on with a deed that breaks the rule, and no earlier."""
        name, line, handles, row, log = told
        self.assertEqual(log, plain[:len(log)])
        deed = plain[len(log)]
        self.assertEqual((len(deed), deed[0]), (4, line))
        self.assertIn(deed[1], handles)
        rule = dict(rules)[name]
        self.assertEqual(len(handles), rule[0])
        self.assertIsNone(room_after(rule, row))
        self.assertIsNotNone(room_after(rule, row[:-1]))
        self.assertEqual(row[-1], deed[2] if rule[0] == 1 else f"{handles.index(deed[1]) + 1}.{deed[2]}")

    def test_by_chance(self):
        chance = random.Random(402)
        found = {list: 0, tuple: 0}
        for program, rules in ruled_programs(chance, 250, 6):
            for turn in range(2):
                found[self.check(program, rules, random_inputs(chance, program, 9)).__class__] += 1
        self.assertGreater(min(found.values()), 100, found)

    def test_a_program_as_great_as_one_may_be(self):
        chance = random.Random(403)
        words = ["deep", "third", "loop", "other", "second", "first", "read", "write", "open", "end", "lend", "back"]
        for turn in range(12):
            rules = rules_by_chance(chance, words, 8)
            for inputs in ([], [2] * 30, [chance.choice([-1, 1, 2]) for place in range(40)]):
                self.check(sixty_lines(), rules, inputs)

    def test_each_column_told_is_let_by_its_paper(self):
        chance = random.Random(404)
        for program, rules in ruled_programs(chance, 60, 3):
            for code in all_codes(program):
                for name, rule in rules:
                    paper = paper_of(code, rule)
                    self.assertTrue(is_closed(code, rule, paper))
                    self.assertTrue(lets_by(code, rule, paper, column_of(code, rule)))

    def test_no_look_is_needless(self):
        # With the one look put off the run with the inputs told is another one.
        chance = random.Random(405)
        tried = 0
        for program, rules in ruled_programs(chance, 500, 2):
            code = turned_code(program)
            for name, rule in needed_rules(rules):
                guard = guard_of(program, [(name, rule)])
                lines = looks_of(guard)
                if len(lines) != 1:
                    continue
                column = column_of(code, rule)
                off = ["none" if row[1] == lines[0] else mark for row, mark in zip(code, column, strict=True)]
                inputs = inputs_to(guard, lines[0])
                told = told_by(run_kept, code, [(name, rule)], [column], inputs)
                self.assertEqual(told[:2], (name, lines[0]))
                self.assertNotEqual(told_by(run_kept, code, [(name, rule)], [off], inputs), told)
                tried += 1
        self.assertGreater(tried, 40)

    def test_rules_compared(self):
        # One follows from the other, or a least row tells them apart; alike ones have equal least rules.
        chance = random.Random(406)
        alike = 0
        for turn in range(400):
            one, other = [rarely_broken(chance, 1, ["a", "b"], chance.randrange(1, 4)) for side in range(2)]
            rows = [row_apart(one, other), row_apart(other, one)]
            for row, keeps, breaks in ((rows[0], one, other), (rows[1], other, one)):
                if row is not None:
                    self.assertIsNotNone(room_after(keeps, row))
                    self.assertIsNone(room_after(breaks, row))
            self.assertEqual(rows == [None, None], least_rule(one) == least_rule(other))
            alike += rows == [None, None]
            self.assertEqual(least_rule(laid_rules([("one", one), ("other", other)])[0]), joined_rule(one, other))
            self.assertEqual(rows[0] is None, joined_rule(one, other) == least_rule(one))
        self.assertGreater(alike, 10)

    def test_from_text_to_report(self):
        chance = random.Random(407)
        for program, rules in ruled_programs(chance, 100, 3):
            self.assertTrue(is_program(program))
            self.assertEqual(read_program(show_program(program)), program)
            self.assertEqual(read_rules(show_rules(rules)), rules)
            inputs = random_inputs(chance, program, 9)
            told = self.check(program, rules, inputs)
            lines = report(show_rules(rules), show_program(program), inputs).split("\n")
            log = told if isinstance(told, list) else told[4]
            self.assertEqual(lines[:-1], [" ".join(str(part) for part in entry) for entry in log])
            self.assertEqual(lines[-1] == "kept", isinstance(told, list))


class Always(unittest.TestCase):
    def test_nothing_hangs_on_chance(self):
        first = printed("0")
        self.assertGreater(len(first), 10000)
        for seed in ("1", "2", "77"):
            self.assertEqual(printed(seed), first)

    def test_asked_again_it_is_the_same(self):
        rules = [("door", door()), ("lease", lease()), ("few", steps_rule(9, None)), ("wide", barring(1, *SIXTEEN[:4]))]
        program = sixty_lines()
        inputs = [2, 2, 2, -1, 2, 0] * 5
        told = []
        for turn in range(3):
            guard = guard_of(program, rules)
            told.append(copy.deepcopy((
                told_by(run_guarded, guard, inputs), looks_of(guard), [inputs_to(guard, line) for line in range(61)],
                report(show_rules(rules), show_program(program), inputs), run_plain(program, inputs))))
        self.assertEqual(told[0], told[1])
        self.assertEqual(told[0], told[2])


if __name__ == "__main__":
    unittest.main()
