"""How handles stand at the rows of a code, and what the rows make of that [2, 21, 22, 23]."""

import itertools
import random
import unittest

from helpers import (
    SIXTEEN_SIDED, all_tokens, barring, check_own, door, free, lease, nested, numbers_behind, random_rule, random_steps,
    sixty_lines, sum_of, token_behind, tokens_begun, way_by,
)
from usewarden.codes import code_of, turned_code
from usewarden.tokens import begins_at, behind_at, breaks_at, rows_behind

# Rows of each kind, so that what is said of one of them is seen alone; the end is row 9.
ROWS = [
    ("open", 0, 1), ("do", 1, 1, "read"), ("copy", 2, 1, 2), ("copy", 3, 1, 1), ("drop", 4, 1), ("tie", 5, 1, 2),
    ("tie", 6, 1, 1), ("test", 7, 0, 9), ("jump", 8, 7), ("end", 9),
]
OPEN, DO, COPY, COPY_SELF, DROP, TIE, TIE_SELF, TEST, JUMP, END = range(10)
CHANGES_NONE = (COPY_SELF, TIE, TIE_SELF, TEST, JUMP)

# Rules by which `end` leads on, so that the order of two ends is seen.
FIRST_ENDS = (2, ["1.end", "2.end"], [[1, None], [1, 1]])
SECOND_ENDS = (2, ["1.end", "2.end"], [[None, 1], [1, 1]])


def begun(rule, at, tokens, code=ROWS):
    return begins_at(code, rule, at, tokens)


class BeginsAt(unittest.TestCase):
    def test_a_new_handle_for_a_rule_of_one_side(self):
        self.assertEqual(begun(door(), OPEN, []), [(2, 1)])
        self.assertEqual(begun(free(1), OPEN, []), [(2, 0)])
        self.assertEqual(begun(barring(1, "close"), OPEN, []), [(2, 0)])
        self.assertEqual(begun(barring(1, "open"), OPEN, []), [])
        # Whatever tokens there are.
        self.assertEqual(begun(door(), OPEN, [(2, 0), (7, 1), (0, 0)]), [(2, 1)])
        self.assertEqual(begun(barring(1, "open"), OPEN, [(2, 0)]), [])

    def test_a_new_handle_for_a_rule_of_two_sides(self):
        for rule in (lease(), free(2), barring(2, "1.open", "2.open")):
            self.assertEqual(begun(rule, OPEN, []), [(2,)])
            self.assertEqual(begun(rule, OPEN, [(1,)]), [(1, 2, 1), (2,), (2, 1, 2)])
            self.assertEqual(begun(rule, OPEN, [(0,)]), [(0, 2, 1), (2,), (2, 0, 2)])
            # The slot is taken out of what it held before.
            self.assertEqual(begun(rule, OPEN, [(2,)]), [(0, 2, 1), (2,), (2, 0, 2)])
            self.assertEqual(begun(rule, OPEN, [(7,)]), [(2,), (2, 5, 2), (5, 2, 1)])
            # Those of two handles begin nothing here.
            self.assertEqual(begun(rule, OPEN, [(1, 4, 1), (1, 4, 2, 0)]), [(2,)])
            self.assertEqual(begun(rule, OPEN, [(4,), (1, 4, 1), (0,), (4,), (2,)]), [
                (0, 2, 1), (2,), (2, 0, 2), (2, 4, 2), (4, 2, 1)])

    def test_a_tie(self):
        for rule in (lease(), free(2)):
            self.assertEqual(begun(rule, TIE, []), [])
            self.assertEqual(begun(rule, TIE, [(2, 4, 1)]), [(2, 4, 1, 0)])
            self.assertEqual(begun(rule, TIE, [(2, 4, 2)]), [(2, 4, 2, 0)])
            self.assertEqual(begun(rule, TIE, [(3, 12, 2), (2, 4, 1), (3, 12, 2)]), [(2, 4, 1, 0), (3, 12, 2, 0)])
            # The first slot must hold the first, the second one the second; a tie or one handle alone begins none.
            self.assertEqual(begun(rule, TIE, [(4, 2, 1), (2, 0, 1), (0, 4, 1), (6, 0, 1), (0, 6, 2), (1, 8, 1)]), [])
            self.assertEqual(begun(rule, TIE, [(2, 4, 1, 0), (2, 4, 2, 1), (6,), (2,)]), [])
            self.assertEqual(begun(rule, TIE_SELF, [(2, 4, 1), (2, 0, 1), (0, 2, 1), (2,)]), [])
        self.assertEqual(begun(door(), TIE, [(6, 0), (2, 1), (4, 0)]), [])

    def test_at_other_rows_none_begins(self):
        for at in (DO, COPY, COPY_SELF, DROP, TEST, JUMP, END):
            for sides in (1, 2):
                rule = free(sides)
                self.assertEqual(begun(rule, at, []), [])
                self.assertEqual(begun(rule, at, all_tokens(sides, 3, 1)), [])

    def test_all_lists_of_few_tokens(self):
        for rule in (door(), lease()):
            tokens = all_tokens(rule[0], 2, 2)
            rows = [("open", 0, 0), ("open", 0, 1), ("tie", 0, 0, 1), ("tie", 0, 1, 0), ("do", 0, 0, "read"), ("end", 0)]
            for row in rows:
                for count in range(3):
                    for chosen in itertools.product(tokens, repeat=count):
                        self.assertEqual(begins_at([row], rule, 0, list(chosen)), sorted(tokens_begun(row, rule, chosen)))

    def test_lists_in_any_order_and_with_one_twice(self):
        chance = random.Random(2201)
        tokens = all_tokens(2, 4, 2)
        for turn in range(300):
            chosen = chance.choices(tokens, k=chance.randrange(40))
            for row in (("open", 0, chance.randrange(4)), ("tie", 0, *chance.sample(range(4), 2))):
                told = begins_at([row], lease(), 0, chosen)
                self.assertEqual(told, sorted(set(told)))
                self.assertEqual(told, sorted(tokens_begun(row, lease(), chosen)))
                chance.shuffle(chosen)
                self.assertEqual(begins_at([row], lease(), 0, chosen), told)

    def test_what_is_told_is_the_askers_own(self):
        for rule, tokens in ((door(), [(1, 0), (0, 1)]), (lease(), [(7,), (2, 4, 1), (0,), (2, 4, 1), (2, 4, 1, 1)])):
            for at in range(len(ROWS)):
                check_own(self, begins_at, ROWS, rule, at, tokens)
                check_own(self, begins_at, ROWS, rule, at, [])


class BehindAt(unittest.TestCase):
    def behind(self, rule, at, *tokens):
        return [behind_at(ROWS, rule, at, token) for token in tokens]

    def test_rows_that_change_none(self):
        for sides, rule in ((1, door()), (2, lease())):
            for at in CHANGES_NONE:
                for token in all_tokens(sides, 3, 2):
                    self.assertEqual(behind_at(ROWS, rule, at, token), token)

    def test_behind_the_end_there_is_none(self):
        for sides in (1, 2):
            for token in all_tokens(sides, 2, 1):
                self.assertIsNone(behind_at(ROWS, free(sides), END, token))

    def test_open_and_drop_take_the_slot_out(self):
        for at in (OPEN, DROP):
            self.assertEqual(self.behind(door(), at, (0, 0), (2, 0), (5, 1), (7, 1)), [(0, 0), (0, 0), (5, 1), (5, 1)])
            self.assertEqual(self.behind(lease(), at, (0,), (2,), (7,)), [(0,), (0,), (5,)])
            self.assertEqual(self.behind(lease(), at, (2, 5, 1), (1, 6, 2)), [(0, 5, 1), (1, 4, 2)])
            self.assertEqual(self.behind(lease(), at, (2, 5, 1, 1), (1, 6, 2, 0)), [(0, 5, 1, 1), (1, 4, 2, 0)])
        # The new handle's own deed moves no other's room, nor breaks its rule.
        self.assertEqual(self.behind(barring(1, "open"), OPEN, (2, 0)), [(0, 0)])
        self.assertEqual(self.behind(barring(2, "1.open", "2.open"), OPEN, (2, 1, 2, 0)), [(0, 1, 2, 0)])

    def test_copy(self):
        self.assertEqual(self.behind(door(), COPY, (0, 1), (2, 1), (4, 0), (6, 0), (1, 1)), [
            (0, 1), (0, 1), (6, 0), (6, 0), (1, 1)])
        self.assertEqual(self.behind(lease(), COPY, (2, 4, 1), (4, 2, 1), (2, 1, 2), (1, 8, 2)), [
            (0, 6, 1), (6, 0, 1), (0, 1, 2), (1, 8, 2)])
        self.assertEqual(self.behind(lease(), COPY, (2, 4, 1, 1), (4, 2, 1, 0), (2,), (4,)), [
            (0, 6, 1, 1), (6, 0, 1, 0), (0,), (6,)])

    def test_do(self):
        self.assertEqual(self.behind(door(), DO, (2, 1), (2, 0), (5, 0), (0, 0), (7, 1)), [(2, 1), None, (5, 0), (0, 0), (7, 1)])
        self.assertEqual(self.behind((1, ["read"], [[1], [None]]), DO, (3, 0), (3, 1), (1, 0), (1, 1)), [
            (3, 1), None, (1, 0), (1, 1)])
        # In a tie by the side that has the slot; those without a room stay.
        self.assertEqual(self.behind(lease(), DO, (1, 2, 1, 0), (1, 2, 1, 1), (2, 1, 2, 0), (1, 4, 1, 0)), [
            None, (1, 2, 1, 1), (2, 1, 2, 0), (1, 4, 1, 0)])
        self.assertEqual(self.behind((2, ["1.read"], [[1], [None]]), DO, (2, 1, 2, 0), (2, 1, 2, 1), (1, 2, 1, 0)), [
            (2, 1, 2, 1), None, (1, 2, 1, 0)])
        self.assertEqual(self.behind(barring(2, "1.read", "2.read"), DO, (2,), (2, 4, 1), (4, 2, 1)), [
            (2,), (2, 4, 1), (4, 2, 1)])

    def test_words_that_are_not_the_rules(self):
        for token in all_tokens(1, 2, 2):
            self.assertEqual(behind_at([("do", 0, 0, "other")], door(), 0, token), token)
        for token in all_tokens(2, 2, 2):
            self.assertEqual(behind_at([("do", 0, 0, "read")], (2, ["2.look"], [[1], [None]]), 0, token), token)

    def test_all_tokens_at_all_rows(self):
        chance = random.Random(2202)
        words = ["a", "b"]
        rows = [("end", 0), ("jump", 0, 0), ("test", 0, 5, 0)]
        rows += [(kind, 0, slot) for kind in ("open", "drop") for slot in range(3)]
        rows += [(kind, 0, *slots) for kind in ("copy", "tie") for slots in itertools.product(range(3), repeat=2)]
        rows += [("do", 0, slot, word) for slot in range(3) for word in [*words, "c"]]
        for turn in range(10):
            for sides, texts in ((1, words), (2, ["1.a", "1.b", "2.a", "2.b"])):
                rule = random_rule(chance, sides, texts, 3)
                for row in rows:
                    for token in all_tokens(sides, 3, 3):
                        self.assertEqual(behind_at([row], rule, 0, token), token_behind(row, rule, token), (row, rule, token))

    def test_great_slots(self):
        # Somewhat beyond the seven slots that a program has.
        chance = random.Random(2203)
        for turn in range(500):
            slots = chance.sample(range(40), 8)
            token = (sum_of(slots[:4]), sum_of(slots[4:]), chance.choice([1, 2]), chance.randrange(2))
            one, other = chance.choice(slots), chance.randrange(40)
            for row in (("open", 0, one), ("drop", 0, other), ("copy", 0, one, other), ("copy", 0, other, one)):
                self.assertEqual(behind_at([row], lease(), 0, token), token_behind(row, lease(), token))

    def test_nothing_handed_in_is_changed(self):
        for rule, token in ((door(), (6, 1)), (lease(), (2, 4, 1, 1)), (lease(), (6,)), (lease(), (1, 6, 2))):
            for at in range(len(ROWS)):
                check_own(self, behind_at, ROWS, rule, at, token)
                self.assertIn(behind_at(ROWS, rule, at, token).__class__, (tuple, None.__class__))


class BreaksAt(unittest.TestCase):
    def test_the_new_handle(self):
        self.assertIs(breaks_at(ROWS, barring(1, "open"), OPEN, None), True)
        self.assertIs(breaks_at(ROWS, (1, ["open"], [[1], [None]]), OPEN, None), False)
        self.assertIs(breaks_at(ROWS, (1, ["open"], [[None], [1]]), OPEN, None), True)
        self.assertIs(breaks_at(ROWS, free(1), OPEN, None), False)
        for at in range(len(ROWS)):
            if at != OPEN:
                self.assertIs(breaks_at(ROWS, barring(1, "end", "open", "read"), at, None), False)
            self.assertIs(breaks_at(ROWS, barring(2, "1.open", "2.open", "1.end", "2.end"), at, None), False)

    def test_at_an_open_it_is_said_of_the_new_handle_alone(self):
        for token in all_tokens(1, 2, 1):
            self.assertIs(breaks_at(ROWS, barring(1, "open"), OPEN, token), False)
        for token in all_tokens(2, 2, 1):
            self.assertIs(breaks_at(ROWS, barring(2, "1.open", "2.open"), OPEN, token), False)

    def test_do(self):
        for token, broken in (((2, 0), True), ((2, 1), False), ((7, 0), True), ((5, 0), False), ((0, 0), False)):
            self.assertIs(breaks_at(ROWS, door(), DO, token), broken)
        for token, broken in (
                ((1, 2, 1, 0), True), ((1, 2, 2, 0), True), ((1, 2, 1, 1), False), ((2, 1, 1, 0), False), ((1, 4, 1, 0), False),
                ((1, 2, 1), False), ((2,), False)):
            self.assertIs(breaks_at(ROWS, lease(), DO, token), broken)

    def test_the_end_of_one(self):
        rule = (1, ["end"], [[None], [0]])
        for held in range(8):
            self.assertIs(breaks_at(ROWS, rule, END, (held, 0)), True)
            self.assertIs(breaks_at(ROWS, rule, END, (held, 1)), False)
            self.assertIs(breaks_at(ROWS, door(), END, (held, 1)), False)

    def test_the_end_of_a_tie(self):
        for one, other in ((0, 0), (1, 2), (0, 6), (5, 2)):
            # The older one ends first.
            self.assertIs(breaks_at(ROWS, FIRST_ENDS, END, (one, other, 1, 0)), False)
            self.assertIs(breaks_at(ROWS, FIRST_ENDS, END, (one, other, 2, 0)), True)
            self.assertIs(breaks_at(ROWS, SECOND_ENDS, END, (one, other, 1, 0)), True)
            self.assertIs(breaks_at(ROWS, SECOND_ENDS, END, (one, other, 2, 0)), False)
            for older in (1, 2):
                self.assertIs(breaks_at(ROWS, FIRST_ENDS, END, (one, other, older, 1)), False)
                # Both do it, be it the second that breaks it.
                self.assertIs(breaks_at(ROWS, barring(2, "1.end"), END, (one, other, older, 0)), True)
                self.assertIs(breaks_at(ROWS, barring(2, "2.end"), END, (one, other, older, 0)), True)
                self.assertIs(breaks_at(ROWS, lease(), END, (one, other, older, 0)), False)
                self.assertIs(breaks_at(ROWS, barring(2, "1.end", "2.end"), END, (one, other, older)), False)
            self.assertIs(breaks_at(ROWS, barring(2, "1.end", "2.end"), END, (one,)), False)

    def test_other_rows_break_nothing(self):
        for at in (COPY, COPY_SELF, DROP, TIE, TIE_SELF, TEST, JUMP):
            for token in all_tokens(1, 3, 1):
                self.assertIs(breaks_at(ROWS, barring(1, "end", "open", "read"), at, token), False)
            for token in all_tokens(2, 3, 1):
                self.assertIs(breaks_at(ROWS, (2, SIXTEEN_SIDED, [[None] * 16]), at, token), False)

    def test_what_breaks_has_none_behind_it(self):
        # But for `open`, and the end, a token with a room breaks the rule just where there is none behind it.
        chance = random.Random(2301)
        for turn in range(10):
            for sides, texts in ((1, ["a", "b", "end"]), (2, ["1.a", "1.b", "1.end", "2.a", "2.b", "2.end"])):
                rule = random_rule(chance, sides, texts, 3)
                for row in [("do", 0, slot, word) for slot in range(3) for word in ("a", "b", "end")]:
                    for token in all_tokens(sides, 3, 3):
                        self.assertIs(breaks_at([row], rule, 0, token), token_behind(row, rule, token) is None)
                for token in all_tokens(sides, 1, 3):
                    room = token[-1] if len(token) in (2, 4) else 0
                    order = [[], ["end"], [], ["1.end", "2.end"]][len(token) - 1]
                    for text in order if len(token) < 4 or token[2] == 1 else reversed(order):
                        room = way_by(rule, room, text)
                    self.assertIs(breaks_at([("end", 0)], rule, 0, token), room is None)

    def test_nothing_handed_in_is_changed(self):
        for rule, token in ((door(), (6, 1)), (door(), None), (lease(), (2, 4, 1, 1)), (lease(), None), (lease(), (6,))):
            for at in range(len(ROWS)):
                check_own(self, breaks_at, ROWS, rule, at, token)


class RowsBehind(unittest.TestCase):
    def test_each_kind_of_row(self):
        self.assertEqual([rows_behind(ROWS, at) for at in range(10)], [[1], [2], [3], [4], [5], [6], [7], [8, 9], [7], []])
        self.assertEqual(rows_behind([("test", 0, 1, 0), ("end", 1)], 0), [0, 1])
        self.assertEqual(rows_behind([("test", 0, 1, 1), ("end", 1)], 0), [1])
        self.assertEqual(rows_behind([("end", 0)], 0), [])

    def test_codes_of_programs(self):
        chance = random.Random(2204)
        programs = [random_steps(chance, ["a", "b"], 3, 4) for turn in range(200)]
        programs += [sixty_lines(), nested("while", 8), nested("if", 8), nested("else", 8), nested("lend", 3), []]
        for program in programs:
            for code in (code_of(program), turned_code(program)):
                for at in range(len(code)):
                    self.assertEqual(rows_behind(code, at), sorted(numbers_behind(code, at)))

    def test_what_is_told_is_the_askers_own(self):
        for at in range(len(ROWS)):
            check_own(self, rows_behind, ROWS, at)


if __name__ == "__main__":
    unittest.main()
