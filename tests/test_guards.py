"""Guards: guarded runs are as watched ones, and each look has inputs that need it [2, 4, 12, 15, 17-20, 26-30]."""

import copy
import itertools
import random
import unittest

from helpers import (
    SIXTEEN, SIXTEEN_SIDED, barring, code_by_lines, door, fields_of, filled, free, inputs_near, lease, least_by_turns, lines_broken,
    log_by_lines, nested, random_inputs, random_steps, rarely_broken, ring_rule, rows_that_break, ruled_programs, rules_by_chance,
    sided, sixty_lines, spoil, steps_rule, told_by, told_by_lines, way_by, with_bound_nought,
)
from test_laid import laid_by_rows
from test_plainruns import RUNS, small_inputs, small_programs, takes_inputs
from test_watched import WATCHED
from usewarden.codes import code_of
from usewarden.errors import Breach, TooGreat, UseError
from usewarden.guards import guard_of, inputs_to, looks_of, run_guarded
from usewarden.plainruns import run_plain
from usewarden.programs import is_program, lines_of
from usewarden.progtexts import read_program
from usewarden.watched import run_watched

MORE = 10 ** 61 - 1
WORDS = ["deep", "third", "loop", "other", "second", "first", "read", "write", "open", "end", "lend", "back"]


def outcome(guard, inputs):
    """What a guarded run tells: its log, or the fields of its refusal."""
    return told_by(run_guarded, guard, inputs)


def guard_or_none(program, rules):
    """The guard, or None where it is refused with TooGreat."""
    try:
        return guard_of(program, rules)
    except TooGreat:
        return None


def of_sides(rules, sides):
    """The rules of so many sides, without their names."""
    return [rule for name, rule in rules if rule[0] == sides]


def follows_by_pairs(rule, ahead):
    """Whether the rule follows from the one ahead: all pairs of rooms to which rows lead are gone through."""
    pairs = [(0, 0)]
    for one, other in pairs:
        for text in {*rule[1], *ahead[1]}:
            pair = (way_by(rule, one, text), way_by(ahead, other, text))
            if pair[1] is not None and pair[0] is None:
                return False
            if pair[1] is not None and pair not in pairs:
                pairs.append(pair)
    return True


def needed_by_words(rules):
    """The rules that don't follow from any one ahead of as many sides."""
    return [(name, rule) for at, (name, rule) in enumerate(rules)
            if not any(ahead[0] == rule[0] and follows_by_pairs(rule, ahead) for other, ahead in rules[:at])]


def lines_that_break(program, rules):
    """The lines with which a handle, or a tie, can break one of the rules that it kept till then.

    Found by the code that isn't turned, and by all rules of as many sides, needed or not.
    """
    code = code_by_lines(lines_of(program), False)
    found = set()
    for sides in (1, 2):
        if of_sides(rules, sides):
            rule = laid_by_rows(of_sides(rules, sides), 4000)[0]
            found |= {code[at][1] for at in rows_that_break(code, rule, least_by_turns(code, rule))}
    return sorted(found)


def most_inputs(program, rules):
    """How many rows the turned code has, and tokens the papers of the needed rules laid together."""
    code = code_by_lines(lines_of(program), True)
    most = len(code)
    for sides in (1, 2):
        chosen = of_sides(needed_by_words(rules), sides)
        if chosen:
            most += sum(len(tokens) for tokens in least_by_turns(code, laid_by_rows(chosen)[0]))
    return most


def broken_by_inputs(program, rules, inputs):
    """The lines with which a plain run with the inputs lets a handle, or a tie, break a rule that it kept till then."""
    log = log_by_lines(lines_of(program), inputs)
    return set().union(*[lines_broken(log, of_sides(rules, sides)) for sides in (1, 2) if of_sides(rules, sides)])


def named(*rules):
    """The rules as a list, each with a name."""
    return [("rule" + "abcdefghij"[place], rule) for place, rule in enumerate(rules)]


def stairs(count):
    """Two rules that come to just one room more, together, than the first one's count; neither follows from the other."""
    up = (1, ["a", "b"], [[at + 1, None] for at in range(count - 1)] + [[None, count - 1]])
    return [up, (1, ["b"], [[1], [None]])]


def with_all_words(words):
    """A program with a while in which each of the words can be done, at the first or the second of two tied handles."""
    steps = [("if", place, [("do", word, "ab"[place % 2])], []) for place, word in enumerate(words)]
    return [("open", "a"), ("open", "b"), ("tie", "a", "b"), ("while", 0, steps)]


# Each the lines of a program, the rules, and the lines with a look.
LOOKS = [
    ([], [], []),
    ([], [("noend", barring(1, "end"))], []),
    (["open a"], [], []),
    (["open a"], [("door", door())], []),
    (["open a"], [("noopen", barring(1, "open"))], [0]),
    (["open a"], [("noend", barring(1, "end"))], [1]),
    (["do x a"], [("nox", barring(1, "x"))], []),
    (["open a", "do close a", "do read a"], [("door", door())], [2]),
    (["open a", "do read a", "do close a"], [("door", door())], []),
    (["open a", "do x a", "do y a"], [("x", barring(1, "x")), ("y", barring(1, "y"))], [1]),
    (["open a", "if 0", "do x a", "else", "do y a", "fi"], [("x", barring(1, "x")), ("y", barring(1, "y"))], [2, 4]),
    # Of one side and of two: a tie may break a rule where its handles broke others ahead.
    (["open a", "do x a", "open b", "tie a b", "do y b"], [("x", barring(1, "x")), ("y", barring(2, "2.y"))], [1, 4]),
    (["open a", "do x a", "open b", "tie a b", "do y a"], [("x", barring(1, "x")), ("y", barring(1, "y"))], [1]),
    (["open a", "do x a", "open a", "do y a"], [("x", barring(1, "x")), ("y", barring(1, "y"))], [1, 3]),
    # A line with several rows of turned code, with a look or without one.
    (["open a", "while 0", "do close a", "done"], [("door", door())], [2]),
    (["open a", "while 0", "do x a", "done", "do x a"], [("once", (1, ["x"], [[1], [None]]))], [2, 4]),
    # The look of a lend's line, and of the line that gives back.
    (["open a", "lend a b", "lend b c", "back", "back"], [("lent", (1, ["back", "lend"], [[None, 1], [0, None]]))], [2]),
    (["open a", "lend a b", "do back a", "back"], [("lent", (1, ["back", "lend"], [[None, 1], [0, None]]))], [3]),
    # A line that rules of one side and of two look at; the end, by ties too.
    (["open a", "open b", "tie a b", "do x a"], [("one", barring(1, "x")), ("two", barring(2, "1.x"))], [3]),
    (["open a", "open b", "tie a b"], [("two", barring(2, "2.end"))], [3]),
    (["open a", "open b", "tie b a"], [("two", (2, ["1.end", "2.end"], [[1, None], [1, 1]]))], [3]),
    (["open a", "open b", "tie a b"], [("two", (2, ["1.end", "2.end"], [[1, None], [1, 1]]))], []),
    # Rules that follow from others ask for no look of their own.
    (["open a", "do x a", "do y a"], [("both", barring(1, "x", "y")), ("x", barring(1, "x")), ("y", barring(1, "y"))], [1]),
]

FIRST = (2, ["1.y", "2.x"], [[None, 1], [1, 1]])
SECOND = barring(2, "1.y")

# Each the lines of a program, rules, inputs, and the fields of the refusal: what is told where one deed breaks several.
BLAMED = [
    # The later tie breaks the first rule, the earlier one but the second.
    (["open a", "open b", "open c", "tie a b", "do x b", "tie a c", "do y a"], [("first", FIRST), ("second", SECOND)], [],
     ("first", 6, [0, 2], ["1.y"])),
    (["open a", "open b", "open c", "tie a b", "do x b", "tie a c", "do y a"], [("second", SECOND), ("first", FIRST)], [],
     ("second", 6, [0, 1], ["2.x", "1.y"])),
    # The same with two ties of the same handles.
    (["open a", "open b", "tie a b", "do x b", "tie a b", "do y a"], [("first", FIRST), ("second", SECOND)], [],
     ("first", 5, [0, 1], ["1.y"])),
    (["open a", "open b", "tie a b", "do x b", "tie a b", "do y a"], [("second", SECOND), ("first", FIRST)], [],
     ("second", 5, [0, 1], ["2.x", "1.y"])),
    # Of one side and of two, in both orders, and with others between them.
    (["open a", "open b", "tie a b", "do y a"], [("two", SECOND), ("one", barring(1, "y"))], [], ("two", 3, [0, 1], ["1.y"])),
    (["open a", "open b", "tie a b", "do y a"], [("one", barring(1, "y")), ("two", SECOND)], [], ("one", 3, [0], ["open", "y"])),
    (["open a", "open b", "tie a b", "do y a"],
     [("x", barring(1, "x")), ("z", barring(2, "1.z")), ("two", SECOND), ("w", barring(1, "w")), ("one", barring(1, "y"))], [],
     ("two", 3, [0, 1], ["1.y"])),
    (["open a", "open b", "tie a b", "do y a"],
     [("z", barring(2, "1.z")), ("x", barring(1, "x")), ("w", barring(1, "w")), ("one", barring(1, "y")), ("two", SECOND)], [],
     ("one", 3, [0], ["open", "y"])),
    # Two equal rules, and one that follows from another: the first is named.
    (["open a", "do x a"], [("one", barring(1, "x")), ("same", barring(1, "x"))], [], ("one", 1, [0], ["open", "x"])),
    (["open a", "do x a"], [("free", free(1)), ("x", barring(1, "x")), ("xy", barring(1, "x", "y"))], [],
     ("x", 1, [0], ["open", "x"])),
    (["open a", "do x a"], [("xy", barring(1, "x", "y")), ("x", barring(1, "x"))], [], ("xy", 1, [0], ["open", "x"])),
    # A rule that follows from one of other sides is not left out.
    (["open a", "do x a"], [("free", free(2)), ("x", barring(1, "x"))], [], ("x", 1, [0], ["open", "x"])),
    # At the end: the older handle first, whatever rule the younger one would break.
    (["open a", "open b", "tie b a"], [("two", barring(2, "1.end")), ("one", (1, ["end"], [[None]]))], [],
     ("one", 3, [0], ["open", "end"])),
    (["open a", "open b", "tie b a"], [("two", barring(2, "2.end")), ("one", (1, ["end"], [[None]]))], [],
     ("two", 3, [1, 0], ["2.end"])),
]


class Runs(unittest.TestCase):
    def check(self, program, rules, inputs):
        """Whether the guarded run tells what the watched one must tell, found by lines and rows alone."""
        told = told_by_lines(program, rules, inputs)
        self.assertEqual(outcome(guard_of(program, rules), inputs), told, (program, rules, inputs))
        return told

    def test_runs_that_are_known(self):
        for lines, rules, inputs, told in WATCHED:
            self.assertEqual(outcome(guard_of(read_program("\n".join(lines)), rules), inputs), told, (lines, rules))

    def test_the_rule_that_stands_first_and_its_earliest_tie(self):
        for lines, rules, inputs, fields in BLAMED:
            program = read_program("\n".join(lines))
            self.assertEqual(self.check(program, rules, inputs)[:4], fields, (lines, rules))
            for chosen in itertools.islice(itertools.permutations(rules), 24):
                self.check(program, list(chosen), inputs)

    def test_without_rules_it_is_the_plain_run(self):
        for program, inputs, log in RUNS:
            guard = guard_of(program, [])
            self.assertEqual(outcome(guard, inputs), log)
            self.assertEqual(looks_of(guard), [])
            free_guard = guard_of(program, [("one", free(1)), ("two", free(2))])
            self.assertEqual((outcome(free_guard, inputs), looks_of(free_guard)), (log, []))

    def test_small_programs(self):
        rules = [
            ("tied", (2, ["1.z", "2.end", "2.z"], [[1, 0, None], [1, 1, 0]])),
            ("door", (1, ["end", "open", "z"], [[0, 1, None], [None, None, 2], [0, 0, 1]])),
            ("tiedz", (2, ["1.z", "2.z"], [[None, 1], [1, 1]])),
        ]
        for program in small_programs():
            guard = guard_of(program, rules)
            for inputs in small_inputs() if takes_inputs(program) else [[]]:
                self.assertEqual(outcome(guard, inputs), told_by_lines(program, rules, inputs), (program, inputs))

    def test_by_chance(self):
        chance = random.Random(3001)
        found = {True: 0, False: 0, None: 0}
        counts = set()
        for program, rules in ruled_programs(chance, 900, 8):
            guard = guard_or_none(program, rules)
            if guard is None:
                found[None] += 1
                rules = rules[:2]
                guard = guard_or_none(program, rules)
            if guard is None:
                continue
            counts.add(len(rules))
            for turn in range(3):
                inputs = random_inputs(chance, program, 9)
                told = told_by_lines(program, rules, inputs)
                found[isinstance(told, tuple)] += 1
                self.assertEqual(outcome(guard, inputs), told, (program, rules, inputs))
                self.assertEqual(told_by(run_watched, code_of(program), rules, inputs), told)
        self.assertGreater(min(found.values()), 20, found)
        self.assertEqual(counts, set(range(9)))

    def test_many_ties_by_chance(self):
        # Ties of several handles in many rooms, so that one deed often breaks several rules by several ties.
        chance = random.Random(3002)
        found = []
        for turn in range(500):
            inner = [("tie", *chance.sample("abc", 2)) for place in range(3)] + [
                ("do", chance.choice("xyz"), chance.choice("abc")) for place in range(4)] + [("open", "b"), ("copy", "c", "b")]
            chance.shuffle(inner)
            program = [("open", "a"), ("open", "b"), ("while", 0, inner), ("do", "x", "a")]
            rules = named(*[rarely_broken(chance, chance.choice([1, 2, 2]), ["x", "y", "z", "end"], 2) for place in range(3)])
            if guard_or_none(program, rules) is not None:
                found.append(self.check(program, rules, [chance.choice([1, 1, 1, 1, 0]) for place in range(7)]).__class__)
        self.assertGreater(found.count(tuple), 150)
        self.assertGreater(found.count(list), 50)

    def test_a_program_as_great_as_one_may_be(self):
        program = sixty_lines()
        self.assertEqual(len(lines_of(program)), 60)
        chance = random.Random(3003)
        found = {True: 0, False: 0}
        while min(found.values()) < 60:
            rules = rules_by_chance(chance, WORDS, 8)
            guard = guard_or_none(program, rules)
            if guard is None:
                rules = rules[-2:]
                guard = guard_or_none(program, rules)
            for count in (0, 1, 20, 80) if guard is not None else ():
                inputs = [chance.choice([-1, 1, 2, 2, 2]) for place in range(count)]
                told = told_by(run_watched, code_of(program), rules, inputs)
                found[isinstance(told, tuple)] += 1
                self.assertEqual(outcome(guard, inputs), told)

    def test_blocks_within_one_another(self):
        for kind in ("if", "else", "while"):
            program = filled(kind, 8, [("open", "a"), ("do", "x", "a")])
            self.assertTrue(is_program(program))
            for rules in ([("nox", barring(1, "x"))], [("end", barring(1, "end")), ("nox", barring(2, "1.x"))]):
                for inputs in ([], [9] * 8, [9] * 40, [-9] * 8, [9] * 7 + [-9], [MORE] * 9):
                    self.check(program, rules, inputs)

    def test_eight_rules_as_great_as_may_be(self):
        rules = [(f"ring{name}", ring_rule(60, "turn", "stop", where)) for name, where in zip("abcd", (3, 7, 11, 59))]
        rules += [(f"tied{name}", ring_rule(60, "1.turn", "2.stop", where)) for name, where in zip("abcd", (0, 5, 7, 11))]
        rules = [rules[place] for place in (4, 0, 5, 1, 6, 2, 7, 3)]
        program = read_program("open a\nopen b\ntie a b\nwhile 0\ndo turn a\ndone\nif 0\ndo stop a\nelse\ndo stop b\nfi")
        guard = guard_of(program, rules)
        for count in (0, 3, 5, 7, 11, 12, 59, 60, 67, 119, 20000):
            for last in ([0, 1], [0, 0], [0], []):
                inputs = [1] * count + last
                told = told_by(run_watched, code_of(program), rules, inputs)
                self.assertEqual(outcome(guard, inputs), told)
                stops = (3, 7, 11, 59) if last == [0, 1] else (0, 5, 7, 11)
                self.assertEqual(isinstance(told, tuple), count % 60 in stops)

    def test_inputs_at_the_bounds(self):
        great = 10 ** 60 - 1
        for bound in (0, -1, great, -great):
            program = [("open", "a"), ("while", bound, [("do", "x", "a")])]
            rules = [("once", (1, ["x"], [[1], [None]]))]
            for inputs in inputs_near(bound):
                self.check(program, rules, inputs)
            guard = guard_of(program, rules)
            self.assertEqual(len(inputs_to(guard, 2)), 2)
            self.assertTrue(all(bound < number <= 10 ** 60 for number in inputs_to(guard, 2)))

    def test_the_refusal_is_a_breach(self):
        with self.assertRaises(Breach) as caught:
            run_guarded(guard_of(read_program("drop a\nopen b"), [("noopen", barring(1, "open"))]), [])
        self.assertIsInstance(caught.exception, UseError)
        self.assertEqual(fields_of(caught.exception), ("noopen", 1, [0], ["open"], []))


class Looks(unittest.TestCase):
    def check(self, program, rules):
        """Whether the looks are just those that inputs need, and such inputs are told; tell the looks."""
        guard = guard_of(program, rules)
        looks = looks_of(guard)
        self.assertEqual(looks, lines_that_break(program, rules), (program, rules))
        most = most_inputs(program, rules)
        for line in range(-2, len(lines_of(program)) + 3):
            inputs = inputs_to(guard, line)
            if line not in looks:
                self.assertIsNone(inputs)
                continue
            self.assertIs(inputs.__class__, list)
            self.assertTrue(all(number.__class__ is int and abs(number) <= MORE for number in inputs))
            self.assertLessEqual(len(inputs), most)
            self.assertIn(line, broken_by_inputs(program, rules, inputs), (program, rules, line, inputs))
        return looks

    def test_looks_that_are_known(self):
        for lines, rules, looks in LOOKS:
            program = read_program("\n".join(lines))
            self.assertEqual(self.check(program, rules), looks, (lines, rules))
            self.assertEqual(self.check(program, rules[::-1]), looks)

    def test_kinds(self):
        guard = guard_of(read_program("open a\nopen b"), [("noopen", barring(1, "open", "end"))])
        self.assertIs(looks_of(guard).__class__, list)
        self.assertEqual([line.__class__ for line in looks_of(guard)], [int, int])
        self.assertEqual(inputs_to(guard, 0), [])

    def test_other_numbers(self):
        guard = guard_of(read_program("open a\ndo x a"), [("nox", barring(1, "x"))])
        self.assertEqual(inputs_to(guard, 1), [])
        for line in (-1, 0, 2, 3, 60, 10 ** 60, -10 ** 60):
            self.assertIsNone(inputs_to(guard, line))

    def test_small_programs(self):
        rules = [
            ("tied", (2, ["1.z", "2.end", "2.z"], [[1, 0, None], [1, 1, 0]])),
            ("door", (1, ["end", "open", "z"], [[0, 1, None], [None, None, 2], [0, 0, 1]])),
        ]
        seen = {tuple(self.check(program, rules)) for program in small_programs()}
        self.assertGreater(len(seen), 10)

    def test_by_chance(self):
        chance = random.Random(3004)
        counts = {}
        for program, rules in ruled_programs(chance, 300, 8):
            if guard_or_none(program, rules) is not None:
                count = len(self.check(program, rules))
                counts[count] = counts.get(count, 0) + 1
        self.assertGreater(counts[0], 20)
        self.assertGreater(len(counts), 4)

    def test_no_inputs_break_a_rule_elsewhere(self):
        # All inputs of 0 and 1 gone through: they break rules just at the lines with a look.
        chance = random.Random(3005)
        made = {True: 0, False: 0}
        while min(made.values()) < 40:
            program = with_bound_nought([("open", "a"), *random_steps(chance, ["a", "b", "c"], 2, 4)])
            rules = rules_by_chance(chance, ["open", "do", "back", "z", "lend", "end"], 3)
            kinds = [line.split(" ")[0] for line in lines_of(program)]
            if "while" in kinds or kinds.count("if") > 6 or guard_or_none(program, rules) is None:
                continue
            broken = set()
            stopped = False
            guard = guard_of(program, rules)
            for inputs in itertools.product([0, 1], repeat=kinds.count("if")):
                broken |= broken_by_inputs(program, rules, list(inputs))
                stopped = stopped or isinstance(outcome(guard, list(inputs)), tuple)
            self.assertEqual(looks_of(guard), sorted(broken))
            # It is let by without any look just where no inputs break a rule.
            self.assertEqual(looks_of(guard) == [], not stopped)
            made[stopped] += 1

    def test_no_inputs_by_chance_break_a_rule_elsewhere(self):
        chance = random.Random(3006)
        for program, rules in ruled_programs(chance, 150, 4):
            program = with_bound_nought(program)
            guard = guard_or_none(program, rules)
            for turn in range(5) if guard is not None else ():
                inputs = [chance.choice([0, 1, 1]) for place in range(12)]
                self.assertLessEqual(broken_by_inputs(program, rules, inputs), set(looks_of(guard)))
                told = outcome(guard, inputs)
                if isinstance(told, tuple):
                    self.assertIn(told[1], looks_of(guard))

    def test_inputs_that_stop_the_guarded_run(self):
        # With but one look the inputs told for it stop the run there.
        chance = random.Random(3007)
        count = 0
        for program, rules in ruled_programs(chance, 300, 3):
            guard = guard_or_none(program, rules)
            if guard is not None and len(looks_of(guard)) == 1:
                line = looks_of(guard)[0]
                self.assertEqual(outcome(guard, inputs_to(guard, line))[1], line)
                count += 1
        self.assertGreater(count, 30)

    def test_programs_and_rules_at_the_bounds(self):
        chance = random.Random(3008)
        program = sixty_lines()
        for rules in ([], [("x", steps_rule(60, None))], [("x", steps_rule(60, None)), ("y", sided(steps_rule(60, None)))],
                      [("door", door()), ("lease", lease())], named(*[barring(1, word) for word in WORDS[:8]])):
            self.check(program, rules)
        checked = 0
        while checked < 12:
            rules = rules_by_chance(chance, WORDS, 3)
            if guard_or_none(program, rules) is not None:
                self.check(program, rules)
                checked += 1
        for kind, count in (("if", 7), ("else", 7), ("while", 7), ("lend", 3)):
            within = [("do", "go", "y"), ("do", "read", "x"), ("do", "close", "x"), *nested(kind, count)]
            program = [("open", "x"), ("open", "y"), ("tie", "x", "y"), ("while", 0, within)]
            self.check(program, [("door", door()), ("lease", lease()), ("lent", (1, ["back", "lend"], [[None, 1], [0, None]]))])

    def test_many_rounds(self):
        program = read_program("open a\nopen b\ntie a b\nwhile 0\ndo go b\ndone")
        rules = [("go", steps_rule(60, None)), ("tied", sided(steps_rule(59, None)))]
        self.assertEqual(self.check(program, rules), [4])
        guard = guard_of(program, rules)
        self.assertIn(len(inputs_to(guard, 4)), (59, 60))
        self.assertEqual(outcome(guard, [1] * 58), run_plain(program, [1] * 58))
        self.assertEqual(outcome(guard, [1] * 59)[:2], ("tied", 4))

    def test_a_paper_of_very_many_tokens(self):
        steps = [("if", 0, [("copy", x, y)], []) for x in "abcd" for y in "abcd" if x != y]
        steps = [("if", 0, [("open", "a")], [("do", "go", "b")]), ("tie", "a", "b"), ("tie", "b", "c"), *steps]
        program = [("while", 0, steps)]
        rules = [("few", (2, ["1.go"], [[at + 1] for at in range(9)] + [[None]]))]
        guard = guard_of(program, rules)
        self.assertEqual(looks_of(guard), [4])
        self.assertEqual(broken_by_inputs(program, rules, inputs_to(guard, 4)), {4})
        self.assertEqual(outcome(guard, inputs_to(guard, 4))[1], 4)


class Refused(unittest.TestCase):
    def check_great(self, rules, is_great):
        """Whether a guard is refused with TooGreat, just where told so, whatever the program is."""
        for program in ([], [("open", "a")], sixty_lines()):
            if is_great:
                with self.assertRaises(TooGreat):
                    guard_of(program, rules)
            else:
                guard_of(program, rules)

    def test_rooms(self):
        for count, is_great in ((58, False), (59, False), (60, True)):
            for rules in (stairs(count), stairs(count)[::-1], [free(1), *stairs(count)], [*stairs(count), lease()]):
                self.assertEqual(laid_by_rows([rule for rule in rules if rule[0] == 1], 60) is None, is_great)
                self.check_great(named(*rules), is_great)
            of_two = [sided(rule) for rule in stairs(count)]
            for rules in (of_two, of_two[::-1], [door(), *of_two], [of_two[0], door(), of_two[1]]):
                self.check_great(named(*rules), is_great)
        self.check_great(named(ring_rule(4, "a", "x"), ring_rule(15, "b", "y")), False)
        self.check_great(named(ring_rule(4, "a", "x"), ring_rule(16, "b", "y")), True)
        self.check_great(named(steps_rule(60, None), sided(steps_rule(60, None))), False)

    def test_words(self):
        for count, is_great in ((7, False), (8, False), (9, True)):
            letters = "abcdefghijklmnopqr"
            one = [barring(1, *letters[:8]), barring(1, *letters[8:8 + count])]
            two = [sided(rule) for rule in one]
            between = [[one[0], two[0], one[1]], [two[0], one[0], two[1]]]
            for rules in (one, two, one[::-1], [*one, lease()], [*two, door()], *between):
                self.check_great(named(*rules), is_great)
        self.check_great(named(barring(1, *SIXTEEN), barring(2, *SIXTEEN_SIDED)), False)

    def test_rules_of_one_side_and_of_two_are_laid_apart(self):
        # Sixty rooms each; together they would be far more.
        self.check_great(named(*stairs(59), *[sided(rule) for rule in stairs(59)]), False)
        self.check_great(named(*stairs(60), *[sided(rule) for rule in stairs(59)]), True)
        self.check_great(named(*stairs(59), *[sided(rule) for rule in stairs(60)]), True)
        self.check_great(named(*stairs(60), *[sided(rule) for rule in stairs(60)]), True)

    def test_rules_that_follow_do_not_count(self):
        # Broken by rows with `a` alone, and so by none that keeps the first.
        wide = (1, SIXTEEN, [[None, *[0] * 15]])
        long = ring_rule(59, "z", "a", 7)
        rest = barring(1, *SIXTEEN[:1], "q", "r", "s")
        self.check_great(named(barring(1, "a"), wide, long, rest), False)
        self.check_great(named(wide, long, rest, barring(1, "a")), True)
        self.check_great(named(long, ring_rule(2, "y", "a", 1)), True)
        self.check_great(named(barring(1, "a"), long, ring_rule(2, "y", "a", 1)), False)
        # Eight that are equal are as one.
        self.check_great(named(*[steps_rule(60, None)] * 8), False)
        self.check_great(named(*[barring(1, *SIXTEEN)] * 8), False)
        # One that nothing breaks follows from any ahead, but counts where it is the first.
        turning = (1, ["x"], [[1], [0]])
        self.check_great(named(steps_rule(60, None), turning), False)
        self.check_great(named(turning, steps_rule(60, None)), True)
        # Nor from one of other sides.
        self.check_great(named(free(2), *stairs(60)), True)

    def test_at_the_bounds_runs_and_looks_are_right(self):
        of_two = [sided(rule) for rule in stairs(59)]
        program = read_program("open a\nopen b\ntie a b\nwhile 0\ndo a b\ndone\nwhile 0\ndo b b\ndone")
        rules = named(of_two[1], stairs(59)[0], of_two[0], stairs(59)[1])
        guard = guard_of(program, rules)
        self.assertEqual(looks_of(guard), lines_that_break(program, rules))
        for count in (0, 1, 57, 58, 59, 60):
            for more in (0, 1, 2, 3):
                inputs = [1] * count + [0] + [1] * more
                self.assertEqual(outcome(guard, inputs), told_by_lines(program, rules, inputs))
        words = [barring(1, *SIXTEEN[:8]), barring(1, *SIXTEEN[8:])]
        program = with_all_words(SIXTEEN[4:12])
        self.assertEqual(looks_of(guard_of(program, named(*words))), lines_that_break(program, named(*words)))

    def test_by_chance(self):
        chance = random.Random(3009)
        found = {True: 0, False: 0}
        words = ["a", "b", "c", "d", "e", "f", "g", "h", "i", "j"]
        for turn in range(250):
            chosen = words[:chance.choice([3, 10])]
            rules = named(*[rarely_broken(chance, chance.choice([1, 2]), chosen, chance.randrange(1, 9))
                            for place in range(chance.randrange(1, 9))])
            is_great = False
            for sides in (1, 2):
                needed = of_sides(needed_by_words(rules), sides)
                if needed:
                    many = len({word for rule in needed for word in rule[1]}) > 16
                    is_great = is_great or many or laid_by_rows(needed, 60) is None
            found[is_great] += 1
            self.check_great(rules, is_great)
        self.assertGreater(min(found.values()), 40, found)

    def test_it_is_a_refusal(self):
        with self.assertRaises(UseError):
            guard_of([], named(*stairs(60)))


class Own(unittest.TestCase):
    def cases(self):
        for lines, rules, inputs, told in WATCHED:
            yield read_program("\n".join(lines)), copy.deepcopy(rules), list(inputs)
        for lines, rules, looks in LOOKS:
            yield read_program("\n".join(lines)), copy.deepcopy(rules), [1, 1, 0]
        yield sixty_lines(), [("door", door()), ("lease", lease()), ("nor", barring(1, "read"))], [2] * 9

    def all_told(self, guard, inputs):
        lines = range(-1, 62)
        return copy.deepcopy((outcome(guard, inputs), looks_of(guard), [inputs_to(guard, line) for line in lines]))

    def test_nothing_handed_in_is_changed(self):
        for handed in self.cases():
            before = copy.deepcopy(handed)
            self.all_told(guard_of(*handed[:2]), handed[2])
            self.assertEqual(handed, before)

    def test_what_is_done_later_to_what_was_handed_in_changes_nothing(self):
        for program, rules, inputs in self.cases():
            told = self.all_told(guard_of(program, rules), inputs)
            guard = guard_of(program, rules)
            spoil((program, rules))
            self.assertEqual(self.all_told(guard, inputs), told)
            program.clear()
            rules.clear()
            self.assertEqual(self.all_told(guard, inputs), told)

    def test_what_is_done_to_what_was_told_changes_nothing(self):
        for program, rules, inputs in self.cases():
            guard = guard_of(program, rules)
            told = self.all_told(guard, inputs)
            log = outcome(guard, inputs)
            looks = looks_of(guard)
            ways = [inputs_to(guard, line) for line in looks]
            spoil((log, looks, ways))
            self.assertEqual(self.all_told(guard, inputs), told)
            self.assertIsNot(looks_of(guard), looks_of(guard))

    def test_inputs_changed_later(self):
        program = read_program("open a\nwhile 0\ndo x a\ndone")
        for rules in ([], [("once", (1, ["x"], [[1], [None]]))]):
            inputs = [1, 2, 3]
            told = outcome(guard_of(program, rules), inputs)
            before = copy.deepcopy(told)
            inputs.clear()
            self.assertEqual(told, before)

    def test_runs_hang_on_no_run_ahead(self):
        # What one run kept of handles and ties isn't there in the next.
        program = read_program("open a\nopen b\ntie a b\nwhile 0\ndo x b\ndone")
        rules = [("once", (1, ["x"], [[1], [None]])), ("tied", (2, ["2.x"], [[1], [2], [None]]))]
        guard = guard_of(program, rules)
        other = guard_of(program, rules[1:])
        for inputs in ([1], [1, 1], [1], [], [1, 1, 1], [1, 1, 1], [1], [1, 0, 1]):
            self.assertEqual(outcome(guard, inputs), told_by_lines(program, rules, inputs))
            self.assertEqual(outcome(other, inputs), told_by_lines(program, rules[1:], inputs))


if __name__ == "__main__":
    unittest.main()
