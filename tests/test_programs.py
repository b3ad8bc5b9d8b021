"""What a program is, its lines and its names [2, 13, 14, 16]."""

import copy
import random
import unittest

from helpers import Sour, bounds_of_lines, check_own, door, every_kind, nested, odd_things, random_steps
from usewarden.programs import is_program, lines_of, names_of

MOST = 10 ** 60 - 1

# A program, its lines, its names.
PROGRAMS = {
    "of no steps": ([], [], []),
    "of every kind": (*every_kind(), ["a", "b", "c", "d"]),
    "open": ([("open", "x")], ["open x"], ["x"]),
    "do": ([("do", "read", "x")], ["do read x"], ["x"]),
    "copy": ([("copy", "x", "y")], ["copy x y"], ["x", "y"]),
    "drop": ([("drop", "x")], ["drop x"], ["x"]),
    "tie": ([("tie", "x", "y")], ["tie x y"], ["x", "y"]),
    "lend": ([("lend", "x", "y", [])], ["lend x y", "back"], ["x", "y"]),
    "if": ([("if", 7, [], [])], ["if 7", "else", "fi"], []),
    "while": ([("while", 7, [])], ["while 7", "done"], []),
    "one name for both": ([("copy", "x", "x"), ("tie", "x", "x"), ("lend", "x", "x", [])],
                          ["copy x x", "tie x x", "lend x x", "back"], ["x"]),
    "names like the kinds": ([("open", "open"), ("do", "do", "do"), ("lend", "back", "fi", [("drop", "back")])],
                             ["open open", "do do do", "lend back fi", "drop back", "back"], ["open", "do", "back", "fi"]),
    "any words for deeds": ([("do", word, "x") for word in ("open", "lend", "back", "end", "else", "if", "abcdefgh")],
                            ["do open x", "do lend x", "do back x", "do end x", "do else x", "do if x", "do abcdefgh x"], ["x"]),
    "deeds are no names": ([("do", "a", "x"), ("do", "b", "x"), ("do", "c", "x"), ("do", "d", "y"), ("do", "e", "z")],
                           ["do a x", "do b x", "do c x", "do d y", "do e z"], ["x", "y", "z"]),
    "a lend's names ahead of its steps'": ([("lend", "x", "y", [("open", "a")]), ("open", "b")],
                                           ["lend x y", "open a", "back", "open b"], ["x", "y", "a", "b"]),
    "names in the order of the lines": ([("if", 0, [("tie", "d", "c")], [("copy", "b", "d")]), ("open", "a"), ("open", "c")],
                                        ["if 0", "tie d c", "else", "copy b d", "fi", "open a", "open c"], ["d", "c", "b", "a"]),
    "a name of eight letters": ([("open", "abcdefgh")], ["open abcdefgh"], ["abcdefgh"]),
    "bounds": ([("while", 0, []), ("while", -1, []), ("while", 10, []), ("while", -100, [])],
               ["while 0", "done", "while -1", "done", "while 10", "done", "while -100", "done"], []),
    "the greatest bound": ([("while", MOST, [])], ["while " + "9" * 60, "done"], []),
    "the least bound": ([("if", -MOST, [], [])], ["if -" + "9" * 60, "else", "fi"], []),
    "sixty lines": ([("open", "x")] * 60, ["open x"] * 60, ["x"]),
    "sixty lines of blocks": ([("if", 1, [], [])] * 20, ["if 1", "else", "fi"] * 20, []),
    "sixty lines of loops": ([("while", 1, [])] * 30, ["while 1", "done"] * 30, []),
    "sixty lines with what is within": ([("while", 1, [("open", "x")] * 58)], ["while 1"] + ["open x"] * 58 + ["done"], ["x"]),
    "four names": ([("tie", "a", "b"), ("tie", "c", "d"), ("tie", "d", "a")], ["tie a b", "tie c d", "tie d a"], list("abcd")),
    "three lends": ([("lend", "a", "b", [])] * 3, ["lend a b", "back"] * 3, ["a", "b"]),
    "three lends within one another": (nested("lend", 3), ["lend x y"] * 3 + ["back"] * 3, ["x", "y"]),
    "a step within eight others": ([("while", 0, nested("while", 8))],
                                   ["while 0"] + [f"while {n}" for n in range(7, -1, -1)] + ["done"] * 9, []),
}

NO_PROGRAMS = {
    "no list": (("open", "x"),),
    "a step by itself": ("open", "x"),
    "a step that is a list": [["open", "x"]],
    "a step that is a text": ["open x"],
    "a step that is a program": [[("open", "x")]],
    "a step of nothing": [None],
    "an empty step": [()],
    "a later step": [("open", "x"), ("open", "x"), None],
    "an unknown kind": [("close", "x")],
    "a line's text for a kind": [("open x",)],
    "a great letter": [("Open", "x")],
    "a closing line": [("back",)],
    "other closing lines": [("done",), ("fi",)],
    "end": [("end",)],
    "the kind of nothing": [(None, "x")],
    "the kind in a list": [(["open"], "x")],
    "the kind as bytes": [(b"open", "x")],
    "open without a name": [("open",)],
    "open with two names": [("open", "x", "y")],
    "do without a name": [("do", "read")],
    "do with two names": [("do", "read", "x", "y")],
    "copy of one name": [("copy", "x")],
    "copy of three names": [("copy", "x", "y", "z")],
    "drop without a name": [("drop",)],
    "drop of two names": [("drop", "x", "y")],
    "tie of one name": [("tie", "x")],
    "tie of three names": [("tie", "x", "y", "z")],
    "lend without steps": [("lend", "x", "y")],
    "lend of one name": [("lend", "x", [])],
    "lend with two lists": [("lend", "x", "y", [], [])],
    "lend with a tuple of steps": [("lend", "x", "y", ())],
    "if with one list": [("if", 0, [])],
    "if with three lists": [("if", 0, [], [], [])],
    "if with a tuple of steps": [("if", 0, (), [])],
    "if with another tuple of steps": [("if", 0, [], ())],
    "if with nothing in place of steps": [("if", 0, [], None)],
    "if without a bound": [("if", [], [])],
    "while without steps": [("while", 0)],
    "while with two lists": [("while", 0, [], [])],
    "while with a step in place of steps": [("while", 0, ("open", "x"))],
    "while with a text in place of steps": [("while", 0, "open x")],
    "while with a dict in place of steps": [("while", 0, {})],
    "a name of no letters": [("open", "")],
    "a name of nine letters": [("open", "abcdefghi")],
    "a name with a great letter": [("open", "X")],
    "a name with a figure": [("open", "x1")],
    "a name with a blank": [("open", "x y")],
    "a name with a line end": [("open", "x\n")],
    "a name that is no text": [("open", 1)],
    "a name in a list": [("open", ["x"])],
    "a second name": [("copy", "x", "Y")],
    "a tie's second name": [("tie", "x", None)],
    "a tie's first name": [("tie", "1.x", "y")],
    "a lend's first name": [("lend", "", "y", [])],
    "a lend's second name": [("lend", "x", "", [])],
    "a deed that is no word": [("do", "Read", "x")],
    "a deed of nine letters": [("do", "abcdefghi", "x")],
    "a deed of nothing": [("do", None, "x")],
    "a do's name": [("do", "read", "X")],
    "a truth for a bound": [("if", True, [], [])],
    "a falsehood for a bound": [("while", False, [])],
    "a bound of another kind": [("while", 1.0, [])],
    "a bound in a text": [("while", "1", [])],
    "no bound": [("while", None, [])],
    "a bound of sixty-one figures": [("while", MOST + 1, [])],
    "a bound of sixty-one figures below nought": [("if", -MOST - 1, [], [])],
    "a bound of very many figures": [("while", 10 ** 5000, [])],
    "a bound of very many figures below nought": [("while", -10 ** 5000, [])],
    "what is within a lend": [("lend", "x", "y", [("open",)])],
    "what is within an if": [("if", 0, [("open",)], [])],
    "what is within an else": [("if", 0, [], [("open",)])],
    "what is within a while": [("while", 0, [("while", 0, [("open", "x"), ("close", "x")])])],
    "sixty-one lines": [("open", "x")] * 61,
    "sixty-one lines of blocks": [("if", 1, [], [])] * 20 + [("open", "x")],
    "sixty-two lines of blocks": [("while", 1, [])] * 31,
    "sixty-one lines with what is within": [("while", 1, [("open", "x")] * 59)],
    "sixty-one lines of a lend": [("lend", "x", "x", [("open", "x")] * 59)],
    "sixty-one lines, those of an if counted": [("if", 1, [("open", "x")] * 29, [("open", "x")] * 29)],
    "five names": [("tie", "a", "b"), ("tie", "c", "d"), ("open", "e")],
    "five names within": [("lend", "a", "b", [("if", 0, [("copy", "c", "d")], [("do", "a", "e")])])],
    "four lends": [("lend", "a", "b", [])] * 4,
    "four lends within one another": nested("lend", 4),
    "four lends in many places": [("lend", "a", "b", [("lend", "a", "b", [])]), ("if", 0, nested("lend", 1), nested("lend", 1))],
    "a step within nine others": [("while", 0, nested("while", 9))],
    "a text": "open x",
    "a text of no signs": "",
}


def shared_wide():
    """Lists that stand at so many places that all of them can't be walked."""
    steps = []
    for turn in range(8):
        steps = [("if", 0, steps, steps)] * 40
    return steps


class WhatAProgramIs(unittest.TestCase):
    def test_programs(self):
        for name, (program, lines, names) in PROGRAMS.items():
            self.assertIs(is_program(program), True, name)

    def test_what_is_none(self):
        for name, thing in NO_PROGRAMS.items():
            self.assertIs(is_program(thing), False, name)

    def test_anything_else(self):
        for thing in (*odd_things(), door()):
            empty = isinstance(thing, list) and len(thing) == 0
            self.assertIs(is_program(thing), empty)
            self.assertIs(is_program([thing]), False)
            self.assertIs(is_program([("open", "x"), thing]), False)

    def test_anything_else_in_each_place(self):
        for thing in (*odd_things(), door()):
            empty = isinstance(thing, list) and len(thing) == 0
            number = isinstance(thing, int) and not isinstance(thing, bool)
            self.assertIs(is_program([("while", thing, [])]), number)
            self.assertIs(is_program([("if", thing, [], [])]), number)
            for step in (("while", 0, thing), ("if", 0, thing, []), ("if", 0, [], thing), ("lend", "x", "y", thing)):
                self.assertIs(is_program([step]), empty)
            for step in ((thing, "x"), ("open", thing), ("do", thing, "x"), ("do", "a", thing), ("copy", thing, "x"),
                         ("copy", "x", thing), ("drop", thing), ("tie", thing, "x"), ("tie", "x", thing),
                         ("lend", thing, "x", []), ("lend", "x", thing, []), (thing,), (thing, thing, thing)):
                self.assertIs(is_program([step]), False)

    def test_lists_within_themselves(self):
        for kind in ("while", "if", "lend"):
            steps = []
            steps.append({"while": ("while", 0, steps), "if": ("if", 0, [], steps), "lend": ("lend", "x", "y", steps)}[kind])
            self.assertIs(is_program(steps), False)

    def test_one_list_at_several_places(self):
        steps = [("open", "x"), ("do", "a", "x")]
        self.assertIs(is_program([("if", 0, steps, steps)] * 8), True)
        self.assertIs(is_program([("if", 0, steps, steps)] * 9), False)
        self.assertIs(is_program(shared_wide()), False)

    def test_very_long_and_very_deep_ones(self):
        self.assertIs(is_program([("open", "x")] * 1000000), False)
        for kind in ("lend", "if", "else", "while"):
            self.assertIs(is_program(nested(kind, 95)), False)

    def test_how_deep(self):
        for kind in ("if", "else", "while"):
            for count in range(1, 9):
                self.assertIs(is_program(nested(kind, count)), True, (kind, count))
            # Nine blocks, where the ninth stands within eight others; the tenth would stand within nine.
            self.assertIs(is_program(nested(kind, 9)), True, kind)
            self.assertIs(is_program(nested(kind, 10)), False, kind)

    def test_blocks_round_a_step(self):
        for inner in (("open", "x"), ("do", "a", "x"), ("copy", "x", "y"), ("drop", "x"), ("tie", "x", "y"),
                      ("lend", "x", "y", []), ("if", 0, [], []), ("while", 0, [])):
            for outer in (lambda steps: ("while", 0, steps), lambda steps: ("if", 0, steps, []),
                          lambda steps: ("if", 0, [], [("open", "x")] + steps)):
                steps = [inner]
                for count in range(1, 12):
                    steps = [outer(steps)]
                    self.assertIs(is_program(steps), count <= 8, (inner, count))

    def test_lends_count_as_blocks(self):
        steps = [("open", "x")]
        for kind in ("lend", "while", "if", "lend", "while", "if", "lend", "while", "while"):
            self.assertIs(is_program(steps), True)
            steps = [{"lend": ("lend", "x", "y", steps), "while": ("while", 1, steps), "if": ("if", 1, [], steps)}[kind]]
        self.assertIs(is_program(steps), False)

    def test_figures_of_bounds(self):
        for figures in (1, 2, 30, 59, 60, 61, 62, 4000):
            for number in (10 ** (figures - 1), 10 ** figures - 1):
                for bound in (number, -number):
                    self.assertIs(is_program([("while", bound, [])]), figures <= 60)
                    self.assertIs(is_program([("if", bound, [], [])]), figures <= 60)

    def test_by_chance(self):
        chance = random.Random(16)
        told = {True: 0, False: 0}
        for turn in range(3000):
            program = random_steps(chance, list("abcdef")[:1 + turn % 6], turn % 5, 4)
            lines, names, lends, around = bounds_of_lines(lines_of(program))
            is_one = lines <= 60 and names <= 4 and lends <= 3 and around <= 8
            self.assertIs(is_program(program), is_one)
            told[is_one] += 1
        self.assertGreater(min(told.values()), 200, told)

    def test_nothing_is_changed(self):
        for program, lines, names in PROGRAMS.values():
            before = copy.deepcopy(program)
            is_program(program)
            self.assertEqual(program, before)
        for name, thing in NO_PROGRAMS.items():
            before = copy.deepcopy(thing)
            is_program(thing)
            self.assertEqual(thing, before, name)

    def test_nothing_is_touched_that_can_t_be(self):
        self.assertIs(is_program(Sour()), False)
        self.assertIs(is_program([(Sour(), Sour(), Sour())]), False)


class Lines(unittest.TestCase):
    def test_programs(self):
        for name, (program, lines, names) in PROGRAMS.items():
            self.assertEqual(lines_of(program), lines, name)

    def test_blocks_within_blocks(self):
        program = [("if", 5, [("while", 1, [("if", 2, [], [("drop", "x")])])], [("lend", "x", "y", [("while", 3, [])])])]
        self.assertEqual(lines_of(program), [
            "if 5", "while 1", "if 2", "else", "drop x", "fi", "done", "else", "lend x y", "while 3", "done", "back", "fi"])

    def test_beyond_the_bounds(self):
        self.assertEqual(lines_of([("open", "x")] * 90), ["open x"] * 90)
        self.assertEqual(lines_of([("while", 10 ** 60, [])]), ["while 1" + "0" * 60, "done"])
        self.assertEqual(lines_of(nested("lend", 12)), ["lend x y"] * 12 + ["back"] * 12)

    def test_nothing_is_changed_and_the_list_is_the_asker_s_own(self):
        for program, lines, names in PROGRAMS.values():
            check_own(self, lines_of, copy.deepcopy(program))


class Names(unittest.TestCase):
    def test_programs(self):
        for name, (program, lines, names) in PROGRAMS.items():
            self.assertEqual(names_of(program), names, name)

    def test_by_chance(self):
        chance = random.Random(17)
        for turn in range(500):
            program = random_steps(chance, ["x", "b", "end", "a"], turn % 4, 3)
            names = []
            for line in lines_of(program):
                texts = line.split(" ")
                if texts[0] in ("open", "drop", "copy", "tie", "lend", "do"):
                    names.extend(text for text in (texts[2:] if texts[0] == "do" else texts[1:]) if text not in names)
            self.assertEqual(names_of(program), list(dict.fromkeys(names)))

    def test_beyond_the_bounds(self):
        self.assertEqual(names_of([("open", letter) for letter in "zyxwvuz"]), list("zyxwvu"))
        self.assertEqual(names_of([("while", 0, nested("lend", 12))]), ["x", "y"])

    def test_nothing_is_changed_and_the_list_is_the_asker_s_own(self):
        for program, lines, names in PROGRAMS.values():
            check_own(self, names_of, copy.deepcopy(program))


if __name__ == "__main__":
    unittest.main()
