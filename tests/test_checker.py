"""The checker: papers that are closed, and columns that are let by with them [2, 22, 23, 24, 25]."""

import copy
import random
import unittest

from helpers import (
    SIXTEEN, SIXTEEN_SIDED, all_codes, all_tokens, barring, check_own, closed_by_words, codes_by_chance, door, free,
    great_codes, lease, least_by_turns, let_by_words, rows_that_break, rows_that_move, slots_of_code, steps_rule,
)
from test_papers import PAPERS
from usewarden.checker import is_closed, lets_by
from usewarden.codes import code_of, turned_code
from usewarden.columns import column_of
from usewarden.papers import paper_of
from usewarden.progtexts import read_program

MARKS = ["look", "step", "none"]


def coded(*lines):
    return code_of(read_program("\n".join(lines)))


def some_tokens(chance, code, rule, count):
    """So many places of a paper by chance, each a row and a token."""
    slots = slots_of_code(code)
    found = []
    for turn in range(count):
        ones = [chance.randrange(3) for slot in range(slots)]
        one, other = [sum(2 ** slot for slot in range(slots) if ones[slot] == side) for side in (1, 2)]
        room, older = chance.randrange(len(rule[2])), chance.choice([1, 2])
        tokens = [(one, room)] if rule[0] == 1 else [(one,), (one, other, older), (one, other, older, room)]
        found.append((chance.randrange(len(code)), chance.choice(tokens)))
    return found


def papers_by_chance(chance, code, rule):
    """Papers: the one told, with a token taken out, with some put in, closed again, turned about, with one twice, with none."""
    paper = paper_of(code, rule)
    yield paper
    yield [[] for row in code]
    yield [list(reversed(tokens)) for tokens in paper]
    yield [chance.sample(tokens, len(tokens)) + chance.choices(tokens, k=2) if tokens else [] for tokens in paper]
    full = [at for at, tokens in enumerate(paper) if tokens]
    for at in chance.sample(full, min(3, len(full))):
        fewer = copy.deepcopy(paper)
        fewer[at].remove(chance.choice(fewer[at]))
        yield fewer
    more = some_tokens(chance, code, rule, chance.randrange(1, 4))
    yield [tokens + [token for place, token in more if place == at] for at, tokens in enumerate(paper)]
    # Closed as well, but with needless tokens in it.
    closed = least_by_turns(code, rule, more)
    yield [chance.sample(tokens, len(tokens)) for tokens in closed]
    full = [at for at, tokens in enumerate(closed) if tokens]
    for at in chance.sample(full, min(2, len(full))):
        fewer = copy.deepcopy(closed)
        fewer[at].remove(chance.choice(fewer[at]))
        yield fewer


def columns_by_chance(chance, code, rule, paper):
    """Columns: of one text alone, the one told, that which the paper asks for, both with one row otherwise, any texts."""
    for mark in MARKS:
        yield [mark for row in code]
    breaks, moves = rows_that_break(code, rule, paper), rows_that_move(code, rule, paper)
    asked = ["look" if at in breaks else "step" if at in moves else "none" for at in range(len(code))]
    for column in (column_of(code, rule), asked):
        yield column
        for at in [chance.randrange(len(code)), *breaks[:1], *moves[:1], len(code) - 1]:
            for mark in MARKS:
                yield column[:at] + [mark] + column[at + 1:]
    for turn in range(3):
        yield [chance.choice(MARKS) for row in code]


class Closed(unittest.TestCase):
    def test_papers_that_are_known(self):
        for lines, rule, paper in PAPERS:
            self.assertIs(is_closed(coded(*lines), rule, paper), True, (lines, rule))
            self.assertIs(is_closed(coded(*lines), rule, [list(reversed(tokens)) for tokens in paper]), True)
            self.assertIs(is_closed(coded(*lines), rule, [tokens + tokens for tokens in paper]), True)

    def test_without_tokens(self):
        # Asked is just what an `open` begins by itself.
        for lines, rule, closed in (
                ([], door(), True), ([], lease(), True), (["do read a", "drop a", "copy a b", "tie a b"], lease(), True),
                (["open a"], door(), False), (["open a"], free(1), False), (["open a"], free(2), False),
                (["open a"], barring(1, "open"), True), (["open a"], barring(2, "1.open", "2.open"), False),
                (["if 0", "do x a", "else", "open a", "fi"], door(), False), (["while 0", "open a", "done"], door(), False)):
            code = coded(*lines)
            self.assertIs(is_closed(code, rule, [[] for row in code]), closed, (lines, rule))

    def test_with_a_token_taken_out(self):
        # Without a loop nothing can hold itself up: each token is asked for by those ahead.
        for lines, rule, paper in PAPERS:
            if any(line.startswith("while") for line in lines):
                continue
            for at, tokens in enumerate(paper):
                for token in tokens:
                    fewer = [list(left) for left in paper]
                    fewer[at].remove(token)
                    self.assertIs(is_closed(coded(*lines), rule, fewer), False, (lines, at, token))
                    # Twice there, it may be taken out once.
                    fewer[at] = [token, *fewer[at], token]
                    fewer[at].remove(token)
                    self.assertIs(is_closed(coded(*lines), rule, fewer), True)

    def test_with_a_token_put_in(self):
        code = coded("open a", "do close a", "copy b a")
        paper = paper_of(code, door())
        self.assertEqual(paper, [[], [(1, 1)], [(1, 0)], [(3, 0)]])
        for at, token, closed in (
                # Behind the end nothing is asked; what breaks the rule has nothing behind it.
                (3, (0, 1), True), (3, (2, 0), True), (1, (3, 0), True), (1, (1, 0), True),
                # These make what isn't there.
                (1, (0, 0), False), (1, (2, 1), False), (2, (1, 1), False), (2, (0, 0), False), (0, (0, 1), False),
                # This one makes what is there already.
                (2, (3, 0), True), (0, (0, 0), False)):
            more = [tokens + [token] * (place == at) for place, tokens in enumerate(paper)]
            self.assertIs(is_closed(code, door(), more), closed, (at, token))

    def test_both_rows_behind_a_test(self):
        code = coded("open a", "if 0", "do x a", "else", "drop a", "fi")
        self.assertEqual([row[0] for row in code], ["open", "test", "do", "jump", "drop", "end"])
        for two, four in (([(1, 0)], [(1, 0)]), ([], [(1, 0)]), ([(1, 0)], []), ([], [])):
            paper = [[], [(1, 0)], two, two, four, [(0, 0), (1, 0)]]
            self.assertIs(is_closed(code, free(1), paper), two == four == [(1, 0)])
        # Behind a jump there is the row told alone.
        self.assertIs(is_closed(code, free(1), [[], [(1, 0)], [(1, 0)], [(1, 0)], [(1, 0)], [(0, 0)]]), False)
        self.assertIs(is_closed(code, free(1), [[], [(1, 0)], [(1, 0)], [(1, 0), (0, 0)], [(1, 0)], [(0, 0), (1, 0)]]), True)

    def test_a_loop_may_hold_up_needless_tokens(self):
        code = coded("open a", "while 0", "do x a", "done")
        paper = paper_of(code, free(1))
        for at in range(1, 5):
            paper[at].append((0, 0))
        self.assertIs(is_closed(code, free(1), paper), True)
        for at in range(1, 5):
            fewer = copy.deepcopy(paper)
            fewer[at].remove((0, 0))
            self.assertIs(is_closed(code, free(1), fewer), False)

    def test_what_two_tokens_ask_for(self):
        # A new handle stands beside each other one, with the slot taken out, in both orders.
        code = coded("open a", "open b", "tie a b")
        paper = paper_of(code, lease())
        for at, token in ((2, (1, 2, 1)), (2, (2, 1, 2)), (2, (2,)), (2, (1,)), (3, (1, 2, 1, 0)), (3, (1, 2, 1)), (1, (1,))):
            fewer = copy.deepcopy(paper)
            fewer[at].remove(token)
            self.assertIs(is_closed(code, lease(), fewer), False, (at, token))

    def test_all_tokens_at_all_rows(self):
        for rule in (door(), lease(), free(1), free(2), barring(1, "x", "open"), barring(2, "1.x", "2.x")):
            for code in all_codes(read_program("open a\nlend a b\nwhile 0\ndo x b\nopen b\ntie a b\ndone\nback\ndo y a")):
                tokens = all_tokens(rule[0], slots_of_code(code), len(rule[2]))
                self.assertIs(is_closed(code, rule, [list(tokens) for row in code]), True)
                # Some token with no slot comes to each row but the first.
                token = (0, 0) if rule[0] == 1 else (0,)
                self.assertIs(is_closed(code, rule, [list(tokens)] + [tokens[1:] for row in code[1:]]), False)
                self.assertEqual(tokens[0], token)

    def test_by_chance(self):
        chance = random.Random(2501)
        seen = set()
        for code, rule in codes_by_chance(chance, 300):
            for paper in papers_by_chance(chance, code, rule):
                closed = is_closed(code, rule, paper)
                self.assertIs(closed, closed_by_words(code, rule, paper), (code, rule, paper))
                seen.add((rule[0], closed))
        self.assertEqual(len(seen), 4)

    def test_codes_and_rules_at_the_bounds(self):
        chance = random.Random(2502)
        for code, rule in great_codes(chance):
            paper = paper_of(code, rule)
            self.assertIs(is_closed(code, rule, paper), True)
            for at in chance.sample(range(len(code)), min(4, len(code))):
                if paper[at]:
                    fewer = [list(tokens) for tokens in paper]
                    fewer[at].remove(chance.choice(fewer[at]))
                    self.assertIs(is_closed(code, rule, fewer), closed_by_words(code, rule, fewer))

    def test_papers_of_very_many_tokens(self):
        program = [("open", "a"), ("open", "b"), ("open", "c")]
        steps = [("if", 0, [("copy", x, y)], []) for x in "abcd" for y in "abcd" if x != y]
        program += [("while", 0, [("tie", "a", "b"), ("do", "go", "b"), *steps])]
        rule = (2, ["1.go", "2.go"], [[(at + 1) % 19, at] for at in range(19)])
        code = code_of(program)
        paper = paper_of(code, rule)
        self.assertGreater(sum(len(tokens) for tokens in paper), 40000)
        self.assertIs(lets_by(code, rule, paper, ["none" for row in code]), True)
        for at in (5, len(code) // 2, len(code) - 1):
            fewer = [list(reversed(tokens)) for tokens in paper]
            fewer[at].pop(len(fewer[at]) // 2)
            self.assertIs(is_closed(code, rule, fewer), closed_by_words(code, rule, fewer))

    def test_nothing_handed_in_is_changed(self):
        for lines, rule, paper in PAPERS:
            check_own(self, is_closed, coded(*lines), rule, [list(reversed(tokens)) + tokens for tokens in paper])


class LetBy(unittest.TestCase):
    def check(self, code, rule, paper, told):
        """Told is a dict, by columns with a letter for each row."""
        for letters, let in told.items():
            column = [{"l": "look", "s": "step", "n": "none"}[letter] for letter in letters]
            self.assertEqual(len(column), len(code))
            self.assertIs(lets_by(code, rule, paper, column), let, (letters, code, rule))
            self.assertIs(let_by_words(code, rule, paper, column), let)

    def test_where_nothing_breaks(self):
        code = coded("open a", "do read a", "do close a")
        # `none` alone is let by, though rooms are changed; else each change is to be seen.
        self.check(code, door(), paper_of(code, door()), {
            "nnnn": True, "llll": True, "ssss": True, "snsn": True, "snss": True, "lnln": True, "lnsl": True,
            "nnsn": False, "snnn": False, "lnnn": False, "nnnl": False, "nnns": False, "nlnn": False, "snnl": False})

    def test_where_something_breaks(self):
        code = coded("open a", "do close a", "do read a")
        self.check(code, door(), paper_of(code, door()), {
            "ssln": True, "llll": True, "ssls": True, "slln": True,
            "sssn": False, "ssnn": False, "nnnn": False, "ssss": False, "nsln": False, "snln": False, "nnln": False})

    def test_the_new_handle(self):
        code = coded("open a", "do x a")
        for rule, told in (
                # It comes to another room.
                ((1, ["open"], [[1], [1]]), {"snn": True, "lnn": True, "nnn": True, "nln": False, "nnl": False, "nsn": False}),
                # It stays in room 0.
                ((1, ["open"], [[0], [None]]), {"nnn": True, "nln": True, "nnl": True, "snn": True}),
                (barring(1, "close"), {"nnn": True, "nln": True, "nns": True, "snn": True}),
                # It breaks the rule, whatever tokens there are.
                (barring(1, "open"), {"lnn": True, "lss": True, "snn": False, "nnn": False, "nln": False, "sll": False}),
                # For a rule of two sides it has no room.
                (barring(2, "1.open", "2.open"), {"nnn": True, "nln": True, "sss": True, "nnl": True})):
            self.check(code, rule, paper_of(code, rule), told)
        # Of a paper without tokens, too.
        self.check(code, barring(1, "open"), [[], [], []], {"lnn": True, "snn": False, "nnn": False, "nll": False})

    def test_the_end(self):
        code = coded("open a")
        # There a change alone asks for nothing.
        moved = (1, ["end"], [[1], [None]])
        self.check(code, moved, paper_of(code, moved), {"nn": True, "ln": True, "ns": True, "nl": True, "sn": True})
        broken = barring(1, "end")
        self.check(code, broken, paper_of(code, broken), {"nl": True, "sl": True, "ns": False, "nn": False, "ln": False})
        # Both handles of a tie end, the older one first.
        code = coded("open a", "open b", "tie b a")
        for rule, let in (
                ((2, ["1.end", "2.end"], [[1, None], [1, 1]]), False), ((2, ["1.end", "2.end"], [[None, 1], [1, 1]]), True),
                ((2, ["1.end"], [[1], [None]]), True), (barring(2, "1.end"), False), (barring(2, "2.end"), False)):
            self.check(code, rule, paper_of(code, rule), {"nnnn": let, "sssn": let, "ssss": let, "nnln": let, "nnnl": True})

    def test_ties(self):
        code = coded("open a", "open b", "tie a b", "do open a", "do read b", "do close a", "do read b")
        paper = paper_of(code, lease())
        self.check(code, lease(), paper, {
            "nnnsnsln": True, "ssssssls": True, "llllllll": True, "nnnlnlll": True,
            "nnnsnssn": False, "nnnsnsnn": False, "nnnnnsln": False, "nnnsnnln": False, "nnnnnnnn": False})
        # Two handles that aren't tied have no room.
        code = coded("open a", "open b", "do open a", "do read b")
        self.check(code, lease(), paper_of(code, lease()), {"nnnnn": True, "nnlnn": True, "nnnnl": True})

    def test_a_paper_that_is_not_closed_is_not_let_by(self):
        for lines, rule, paper in PAPERS:
            code = coded(*lines)
            column = column_of(code, rule)
            self.assertIs(lets_by(code, rule, paper, column), True)
            for at, tokens in enumerate(paper):
                if tokens and not any(line.startswith("while") for line in lines):
                    fewer = [list(left) for left in paper]
                    fewer[at].pop()
                    for marks in (column, ["look" for row in code], ["none" for row in code]):
                        self.assertIs(lets_by(code, rule, fewer, marks), False)
        code = coded("open a", "do read a")
        self.assertIs(lets_by(code, barring(1, "read"), [[], [(1, 0)], []], ["none", "look", "none"]), True)
        self.assertIs(lets_by(code, barring(1, "read"), [[], [], []], ["none", "none", "none"]), False)

    def test_needless_tokens_count(self):
        code = coded("open a", "do read a")
        paper = paper_of(code, door())
        self.assertIs(lets_by(code, door(), paper, ["none", "none", "none"]), True)
        # A token in room 0 breaks the rule at `read`, be it met by a run or not.
        paper[1].append((1, 0))
        self.check(code, door(), paper, {"nnn": False, "sln": True, "ssn": False, "nln": False})
        paper[1] = [(1, 1), (0, 0)]
        paper[2] = [(0, 0), (1, 1), (0, 0)]
        self.check(code, door(), paper, {"nnn": True, "snn": True, "nsn": False})

    def test_by_chance(self):
        chance = random.Random(2503)
        seen = {}
        for code, rule in codes_by_chance(chance, 30):
            for paper in papers_by_chance(chance, code, rule):
                for column in columns_by_chance(chance, code, rule, paper):
                    let = lets_by(code, rule, paper, column)
                    self.assertIs(let, let_by_words(code, rule, paper, column), (code, rule, paper, column))
                    kind = (rule[0], let, set(column) == {"none"}, closed_by_words(code, rule, paper))
                    seen[kind] = seen.get(kind, 0) + 1
        # Let by or not, of both sides, with a column of `none` alone or not, of a closed paper or another one.
        self.assertEqual(len(seen), 12)
        self.assertGreater(min(seen.values()), 5)

    def test_codes_and_rules_at_the_bounds(self):
        chance = random.Random(2504)
        for code, rule in great_codes(chance):
            paper = paper_of(code, rule)
            column = column_of(code, rule)
            self.assertIs(lets_by(code, rule, paper, column), True)
            self.assertIs(lets_by(code, rule, paper, ["look" for row in code]), True)
            for mark in ("step", "none"):
                self.assertIs(lets_by(code, rule, paper, [mark for row in code]), "look" not in column)
            for turn in range(3):
                marks = list(column)
                marks[chance.randrange(len(code))] = chance.choice(MARKS)
                self.assertIs(lets_by(code, rule, paper, marks), let_by_words(code, rule, paper, marks))

    def test_all_columns_of_few_rows(self):
        # Each column of a code of five rows, by rules of one side and of two.
        programs = (["open a", "do x a", "open b", "do end b"], ["open a", "open b", "tie a b", "do x a"])
        rules = (barring(1, "x"), steps_rule(3, None), (1, ["end", "open", "x"], [[0, 1, None], [None, 0, 0]]),
                 (2, ["1.x", "2.end"], [[1, 0], [1, None]]), (2, ["1.end", "1.x"], [[0, 1], [0, 0]]))
        for lines in programs:
            code = coded(*lines)
            for rule in rules:
                paper = paper_of(code, rule)
                for number in range(3 ** 5):
                    column = [MARKS[number // 3 ** at % 3] for at in range(5)]
                    self.assertIs(lets_by(code, rule, paper, column), let_by_words(code, rule, paper, column))

    def test_rules_of_sixteen_words(self):
        lines = [f"do {letter} {name}" for letter in "abcdefgh" for name in "xy"]
        code = coded("open x", "open y", "tie x y", *lines)
        for words, sides in ((SIXTEEN, 1), (SIXTEEN_SIDED, 2)):
            for rule in ((sides, list(words), [[0] * 16]), (sides, list(words), [[0] * 15 + [None]])):
                paper = paper_of(code, rule)
                breaks = rule[2][0][-1] is None and sides == 2
                self.assertIs(lets_by(code, rule, paper, ["none" for row in code]), not breaks)
                self.assertIs(lets_by(code, rule, paper, ["none" for row in code[:-2]] + ["look", "none"]), True)

    def test_nothing_handed_in_is_changed(self):
        for lines, rule, paper in PAPERS:
            for code in (coded(*lines), turned_code(read_program("\n".join(lines)))):
                turned = [list(reversed(tokens)) + tokens for tokens in paper_of(code, rule)]
                for column in (column_of(code, rule), ["none" for row in code], ["look" for row in code]):
                    check_own(self, lets_by, code, rule, turned, column)


if __name__ == "__main__":
    unittest.main()
