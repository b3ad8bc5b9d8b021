"""Papers: the least closed ones [2, 21, 22, 24]."""

import itertools
import random
import unittest

from helpers import (
    SIXTEEN, SIXTEEN_SIDED, all_codes, barring, check_own, closed_by_words, door, free, lease, least_by_turns, nested,
    numbers_behind, rarely_broken, random_steps, sided, sixty_lines, slots_in, slots_of_code, steps_rule, token_behind,
    tokens_begun, tokens_met, with_bound_nought,
)
from test_plainruns import small_programs
from usewarden.codes import code_of, turned_code
from usewarden.papers import paper_of
from usewarden.progtexts import read_program
from usewarden.programs import is_program, lines_of

TWO = [(1,), (1, 2, 1), (2,), (2, 1, 2)]

# Each the lines of a program, a rule, and the paper of the program's code.
PAPERS = [
    ([], door(), [[]]),
    ([], lease(), [[]]),
    (["do read a", "drop a"], door(), [[], [], []]),
    (["open a"], door(), [[], [(1, 1)]]),
    (["open a"], free(1), [[], [(1, 0)]]),
    (["open a"], barring(1, "open"), [[], []]),
    (["open a"], lease(), [[], [(1,)]]),
    (["open a", "do close a", "do read a"], door(), [[], [(1, 1)], [(1, 0)], []]),
    # The slot holds the new one alone; the old one stands there still.
    (["open a", "do close a", "open a"], door(), [[], [(1, 1)], [(1, 0)], [(0, 0), (1, 1)]]),
    (["open a", "copy b a", "drop a"], door(), [[], [(1, 1)], [(3, 1)], [(2, 1)]]),
    (["open a", "copy a b"], door(), [[], [(1, 1)], [(0, 1)]]),
    # A lend has a slot of its own, behind those of the names: `copy`, `do lend`, `copy`, `do back`, `drop`, `drop`.
    (["open a", "lend a b", "back"], (1, ["back", "lend"], [[None, 1], [0, None]]), [
        [], [(1, 0)], [(5, 0)], [(5, 1)], [(7, 1)], [(7, 0)], [(5, 0)], [(1, 0)]]),
    # Ifs bring what stood at both ends; whiles what stood in any round.
    (["open a", "if 0", "do close a", "else", "drop a", "fi"], door(), [
        [], [(1, 1)], [(1, 1)], [(1, 0)], [(1, 1)], [(0, 1), (1, 0)]]),
    (["open a", "while 0", "do go a", "done"], steps_rule(3, None), [
        [], [(1, 0), (1, 1), (1, 2)], [(1, 0), (1, 1), (1, 2)], [(1, 1), (1, 2)], [(1, 0), (1, 1), (1, 2)]]),
    (["while 0", "open a", "done"], door(), [[(0, 1), (1, 1)], [(0, 1), (1, 1)], [(0, 1), (1, 1)], [(0, 1), (1, 1)]]),
    # Two handles stand in both orders; a tie is there from room 0 on, till it breaks.
    (["open a", "open b", "tie a b", "do read b"], lease(), [[], [(1,)], TWO, [*TWO[:2], (1, 2, 1, 0), *TWO[2:]], TWO]),
    (["open a", "open b", "tie b a"], free(2), [[], [(1,)], TWO, [*TWO, (2, 1, 2, 0)]]),
    (["open a", "open b", "tie a b", "do open a", "tie a b"], lease(), [
        [], [(1,)], TWO, [*TWO[:2], (1, 2, 1, 0), *TWO[2:]], [*TWO[:2], (1, 2, 1, 1), *TWO[2:]],
        [*TWO[:2], (1, 2, 1, 0), (1, 2, 1, 1), *TWO[2:]]]),
    (["open a", "copy b a", "tie a b", "tie a a"], free(2), [[], [(1,)], [(3,)], [(3,)], [(3,)]]),
    (["open a", "open a"], free(2), [[], [(1,)], [(0,), (0, 1, 1), (1,), (1, 0, 2)]]),
]


def small_codes():
    """Codes of small programs, with a while around them too, each with a rule of one side and one of two."""
    one = (1, ["end", "open", "z"], [[0, 1, None], [None, None, 2], [0, 0, 1]])
    two = (2, ["1.z", "2.end", "2.open", "2.z"], [[1, 0, 0, None], [1, 1, 0, 0]])
    for program in small_programs():
        for code in [code_of(program), *all_codes([("while", 0, program)])]:
            for rule in (one, two):
                yield code, rule


def met_by_inputs(code, rule, most):
    """The tokens with which runs come to each row, with all inputs of 0 and 1, so many at most."""
    met = [set() for row in code]
    # The shorter ones are no others: where no input is left, it goes on as if one had been that isn't more.
    for inputs in itertools.product([0, 1], repeat=most):
        for found, tokens in zip(met, tokens_met(code, rule, inputs), strict=True):
            found |= tokens
    return [sorted(tokens) for tokens in met]


def ways_met(code, rule):
    """For each row and token of the least closed paper the inputs with which a run brings it there, by 0 and 1."""
    ways = {}
    waiting = []

    def put(at, tokens, inputs):
        for place in numbers_behind(code, at):
            taken = inputs + [1 if place == at + 1 else 0] if code[at][0] == "test" else inputs
            for token in tokens:
                if token is not None and (place, token) not in ways:
                    ways[place, token] = taken
                    waiting.append((place, token))

    # Ways to the rows themselves, with no token: a handle begins wherever a run comes to its `open`.
    first, reached = {0: []}, [0]
    for at in reached:
        for place in numbers_behind(code, at):
            if place not in first:
                first[place] = first[at] + ([1 if place == at + 1 else 0] if code[at][0] == "test" else [])
                reached.append(place)
    for at, row in enumerate(code):
        put(at, tokens_begun(row, rule, []), first[at])
    for at, token in waiting:
        row = code[at]
        by_token = tokens_begun(row, rule, [token]) - tokens_begun(row, rule, [])
        put(at, by_token | {token_behind(row, rule, token)}, ways[at, token])
    return ways


class Papers(unittest.TestCase):
    def check_form(self, code, rule, paper):
        """Whether a paper is one for the code and the rule, each list sorted, each token once."""
        slots = slots_of_code(code)
        self.assertIs(paper.__class__, list)
        self.assertEqual(len(paper), len(code))
        for tokens in paper:
            self.assertIs(tokens.__class__, list)
            self.assertEqual(tokens, sorted(set(tokens)))
            for token in tokens:
                self.assertIs(token.__class__, tuple)
                self.assertEqual({part.__class__ for part in token}, {int})
                self.assertIn(len(token), (2,) if rule[0] == 1 else (1, 3, 4))
                self.assertTrue(all(0 <= held < 2 ** slots for held in token[:1 if len(token) < 3 else 2]))
                if len(token) > 2:
                    self.assertFalse(slots_in(token[0]) & slots_in(token[1]))
                    self.assertIn(token[2], (1, 2))
                if len(token) in (2, 4):
                    self.assertTrue(0 <= token[-1] < len(rule[2]))

    def check(self, code, rule):
        paper = paper_of(code, rule)
        self.check_form(code, rule, paper)
        self.assertTrue(closed_by_words(code, rule, paper))
        self.assertEqual(paper, least_by_turns(code, rule), (code, rule))
        return paper

    def check_ways(self, code, rule):
        """Whether each token of the paper is brought there by a run, and there are as many of them."""
        paper = paper_of(code, rule)
        ways = ways_met(code, rule)
        met = {}
        for at, tokens in enumerate(paper):
            for token in tokens:
                inputs = tuple(ways[at, token])
                if inputs not in met:
                    met[inputs] = tokens_met(code, rule, inputs)
                self.assertIn(token, met[inputs][at], (code, rule, at, inputs))
        self.assertEqual(len(ways), sum(len(tokens) for tokens in paper))

    def check_by_inputs(self, code, rule):
        """Whether the paper has just what runs bring there, with inputs as many as it takes till they bring all of it."""
        paper = paper_of(code, rule)
        for most in (4, 6, 8, 10, 12):
            met = met_by_inputs(code, rule, most)
            self.assertTrue(all(set(tokens) <= set(kept) for tokens, kept in zip(met, paper, strict=True)), (code, rule))
            if met == paper:
                return
        self.assertEqual(met, paper, (code, rule))

    def test_papers_that_are_known(self):
        for lines, rule, paper in PAPERS:
            code = code_of(read_program("\n".join(lines)))
            self.assertEqual(paper_of(code, rule), paper, (lines, rule))
            self.assertEqual(self.check(code, rule), paper)
            self.check(turned_code(read_program("\n".join(lines))), rule)

    def test_a_paper_without_one_of_its_tokens_is_not_closed_or_another_one_is_in_it(self):
        # Without a loop nothing can hold itself up: each token is asked for by those ahead.
        for lines, rule, paper in PAPERS:
            code = code_of(read_program("\n".join(lines)))
            if not any(line.startswith("while") for line in lines):
                for at, tokens in enumerate(paper):
                    for token in tokens:
                        fewer = [list(left) for left in paper]
                        fewer[at].remove(token)
                        self.assertFalse(closed_by_words(code, rule, fewer))

    def test_small_programs(self):
        for code, rule in small_codes():
            self.check(code, rule)

    def test_just_what_runs_bring_there_by_going_through_the_inputs(self):
        chance = random.Random(2401)
        programs = [
            "open a\nopen b\nwhile 0\ntie a b\ndo x a\ncopy b a\nopen a\ndone",
            "while 0\nif 0\nopen a\nelse\ncopy b a\nfi\ndo x b\ndone\ndo y a",
            "open a\nlend a b\nwhile 0\ndo x b\nopen b\ntie a b\ndone\nback\ndo y a",
            "while 0\nopen a\nlend a a\nif 0\ndo x a\nelse\ntie a b\nfi\nback\ncopy b a\ndone",
            "while 0\nopen a\ndo x a\nwhile 0\ndrop b\ncopy b a\ntie a b\ndone\ndone",
        ]
        for text in programs:
            for turn in range(6):
                rule = rarely_broken(chance, 1 + turn % 2, ["open", "x", "y"], 2)
                for code in all_codes(read_program(text)):
                    self.check_by_inputs(code, rule)

    def test_programs_without_whiles_by_going_through_the_inputs(self):
        chance = random.Random(2402)
        count = 0
        while count < 150:
            program = with_bound_nought(random_steps(chance, ["a", "b", "c"], 2, 4))
            lines = [line.split(" ")[0] for line in lines_of(program)]
            if "while" in lines or lines.count("if") > 6 or lines.count("open") < 2:
                continue
            count += 1
            for sides in (1, 2):
                rule = rarely_broken(chance, sides, ["open", "do", "back", "z", "lend"], 3)
                for code in all_codes(program):
                    self.assertEqual(met_by_inputs(code, rule, lines.count("if")), paper_of(code, rule), (program, rule))

    def test_no_run_brings_another_token(self):
        chance = random.Random(2403)
        for turn in range(300):
            program = with_bound_nought([("open", "a"), *random_steps(chance, ["a", "b", "c"], 3, 4)])
            rule = rarely_broken(chance, chance.choice([1, 2]), ["open", "do", "back", "z", "lend", "end"], 3)
            for code in all_codes(program):
                paper = [set(tokens) for tokens in paper_of(code, rule)]
                for again in range(3):
                    met = tokens_met(code, rule, [chance.choice([0, 1, 1]) for place in range(9)])
                    self.assertTrue(all(tokens <= kept for tokens, kept in zip(met, paper, strict=True)))

    def test_each_token_is_brought_by_a_run(self):
        chance = random.Random(2404)
        for turn in range(150):
            program = with_bound_nought([("open", "a"), ("open", "b"), *random_steps(chance, ["a", "b", "c"], 2, 3)])
            if len(lines_of(program)) > 30:
                continue
            rule = rarely_broken(chance, chance.choice([1, 2]), ["open", "do", "back", "z", "lend", "end"], 3)
            for code in all_codes(program):
                self.check_ways(code, rule)

    def test_programs_by_chance(self):
        chance = random.Random(2405)
        for turn in range(200):
            names = ["a", "b", "c", "d"][:chance.randrange(1, 5)]
            program = [("open", chance.choice(names)), ("open", chance.choice(names)), *random_steps(chance, names, 3, 3)]
            words = ["open", "do", "back", "z", "lend", "end"]
            rule = rarely_broken(chance, chance.choice([1, 2]), words, chance.randrange(1, 6))
            for code in all_codes(program):
                if len(code) < 150:
                    self.check(code, rule)

    def test_blocks_within_one_another(self):
        for kind, most in (("if", 8), ("else", 8), ("while", 8), ("lend", 3)):
            within = nested(kind, most if kind == "lend" else most - 1)
            program = [("open", "x"), ("while", 0, [("do", "read", "x"), ("do", "close", "x"), *within])]
            self.assertTrue(is_program(program))
            for rule in (door(), lease(), (1, ["back", "lend"], [[None, 1], [0, 2], [1, None]])):
                for code in all_codes(program):
                    self.check(code, rule)

    def test_a_program_as_great_as_one_may_be(self):
        chance = random.Random(2406)
        words = ["deep", "end", "loop", "open", "read", "second", "third", "write", "lend", "back"]
        for code in all_codes(sixty_lines()):
            for sides in (1, 2):
                self.check(code, free(sides))
                self.check(code, rarely_broken(chance, sides, words, 4))

    def test_rules_of_sixteen_words_and_sixty_rooms(self):
        chance = random.Random(2407)
        steps = [("if", 0, [("do", "abcdefgh"[place], "ab"[place % 2])], []) for place in range(4)]
        program = [("open", "a"), ("while", 0, [("open", "b"), ("tie", "a", "b"), ("while", 0, steps)])]
        for words, sides in ((SIXTEEN, 1), (SIXTEEN_SIDED, 2)):
            rooms = [[None if chance.random() < 0.02 else chance.randrange(60) for word in words] for room in range(60)]
            paper = self.check(code_of(program), (sides, list(words), rooms))
            self.assertGreater(len({token[-1] for tokens in paper for token in tokens if len(token) in (2, 4)}), 30)

    def test_all_sixty_rooms_one_after_another(self):
        program = read_program("open a\nopen b\ntie a b\nwhile 0\ndo go b\ndone")
        one = paper_of(code_of(program), steps_rule(60, None))
        self.assertEqual(one[3], [(held, room) for held in (1, 2) for room in range(60) if held == 2 or room == 0])
        two = paper_of(code_of(program), sided(steps_rule(60, None)))
        self.assertEqual(two[3], [*TWO[:2], *[(1, 2, 1, room) for room in range(60)], *TWO[2:]])
        self.assertEqual(two[5], [*TWO[:2], *[(1, 2, 1, room) for room in range(1, 60)], *TWO[2:]])

    def test_papers_of_very_many_tokens(self):
        steps = [("if", 0, [("copy", x, y)], []) for x in "abcd" for y in "abcd" if x != y]
        steps = [("if", 0, [("open", "a")], [("do", "go", "b")]), ("tie", "a", "b"), ("tie", "b", "c"), *steps]
        program = [("while", 0, steps)]
        self.assertTrue(is_program(program))
        # All rows but the last ones of each while come around to one another.
        paper = paper_of(code_of(program), (2, ["1.go"], [[(at + 1) % 13] for at in range(13)]))
        self.check_form(code_of(program), (2, ["1.go"], [[0]] * 13), paper)
        count = sum(len(tokens) for tokens in paper)
        self.assertTrue(50000 < count < 100000, count)
        self.assertTrue(closed_by_words(code_of(program), (2, ["1.go"], [[(at + 1) % 13] for at in range(13)]), paper))

    def test_what_is_handed_in_stays_and_what_is_told_is_the_askers_own(self):
        for lines, rule, paper in PAPERS:
            for code in all_codes(read_program("\n".join(lines))):
                check_own(self, paper_of, code, rule)
        check_own(self, paper_of, turned_code(sixty_lines()), lease())


if __name__ == "__main__":
    unittest.main()
