"""Programs written and read [2, 13, 14]."""

import copy
import random
import unittest

from helpers import are_apart, bounds_of_lines, door, every_kind, nested, odd_things, random_steps, spoil
from test_programs import NO_PROGRAMS, PROGRAMS
from usewarden.errors import NoText, UseError
from usewarden.progtexts import read_program, show_program
from usewarden.programs import is_program, lines_of

EVERY = "\n".join(every_kind()[1])

# Lines that stand in no program, whatever stands round them.
NO_LINES = [
    "", " ", "x", "open", "open ", "open  x", " open x", "open x ", "open x y", "Open x", "OPEN x", "open X", "open x1",
    "open abcdefghi", "open 1.x", "open\tx", "open x\r", "open x\t", "open\u00a0x", "open \u00e9", "openx", "open,x", "open x;",
    "open(x)", "close x", "end", "('open', 'x')", "# open x", "open x # x", "0", "None",
    "do", "do read", "do read x y", "do  read x", "do read  x", "do Read x", "do read X", "do abcdefghi x", "do read ",
    "copy", "copy x", "copy x y z", "copy x  y", "copy x Y", "copy x ", "copy  x", "drop", "drop x y", "drop ", "drop X",
    "tie", "tie x", "tie x y z", "tie x,y", "tie 1.x 2.y", "tie x ", "lend", "lend x", "lend x y z", "lend x y ", "lend X y",
    "lend x Y", " lend x y", "if", "if ", "if x", "if 1 2", "if  1", "if 1 ", " if 1", "If 1", "while", "while ", "while x",
    "while  1", "while 1 ", " while 1", "while\t1", "while1", "while 1 2", "while -", "while --1", "while - 1", "while +1",
    "while -0", "while 00", "while 01", "while -01", "while 007", "while 1_0", "while 1.0", "while 1e3", "while 0x1",
    "while \u0661", "while \u00b2", "while \uff11", "while \u2212" + "1", "while 1-", "while True", "while None",
    "while 1" + "0" * 60, "while -1" + "0" * 60, "while " + "9" * 61, "while 0" + "9" * 60, "while " + "9" * 4000,
    "while -" + "9" * 4000, "while " + "9" * 9000, "while " + "0" * 60, "while " + "0" * 61,
    "back x", "back ", " back", "Back", "else ", " else", "else if 1", "elif 1", "elseif 1", "fi ", " fi", "done ", " done",
    "end if", "done x", "fi x",
]

NO_TEXTS = [
    # Blocks that aren't closed, are closed twice, or by another one's line.
    "lend x y", "if 1", "if 1\nelse", "if 1\nfi", "if 1\nfi\nelse", "while 1", "lend x y\nopen x", "while 1\nopen x",
    "if 1\nopen x\nelse\nopen x", "back", "else", "fi", "done", "back\nlend x y", "done\nwhile 1", "else\nfi", "open x\nback",
    "lend x y\ndone", "lend x y\nfi", "lend x y\nelse", "while 1\nback", "while 1\nfi", "while 1\nelse\ndone",
    "if 1\nback\nfi", "if 1\nelse\ndone", "if 1\nelse\nback", "if 1\nelse\nelse\nfi", "if 1\ndone\nfi", "if 1\nfi\nfi",
    "lend x y\nback\nback", "while 1\ndone\ndone", "if 1\nelse\nfi\nfi", "lend x y\nelse\nback", "while 1\ndone\nelse",
    "while 1\nif 2\ndone\nelse\nfi", "if 1\nwhile 2\nelse\ndone\nfi", "lend x y\nwhile 1\nback\ndone",
    "while 1\nlend x y\ndone\nback", "if 1\nelse\nwhile 2\nfi\ndone", "done\nopen x", "fi\n" + EVERY, EVERY + "\ndone",
    # Line ends too many, too few, or of another kind.
    "\n", "\n\n", "open x\n", "\nopen x", "open x\n\nopen x", "open x\r\nopen x", "open x\ropen x", "open x open x",
    "open x;open x", "open x\x0bopen x", "open x\x0copen x", "open x\u2028open x", "open x\x85open x", EVERY + "\n", "\n" + EVERY,
    EVERY.replace("\n", "\r\n"), EVERY.replace("\n", " "), EVERY.replace("\n", "\n\n"), EVERY.replace("\n", " \n"),
    EVERY.replace("\n", "\n "), EVERY.upper(), "\ufeff" + EVERY, EVERY + "\x00", EVERY + " ", repr(every_kind()[0]), "[]",
    # Beyond the bounds.
    "\n".join(["open x"] * 61), "\n".join(["while 1", "done"] * 31), "\n".join(["if 1", "else", "fi"] * 20 + ["open x"]),
    "\n".join(["while 1"] + ["open x"] * 59 + ["done"]), "open a\nopen b\nopen c\nopen d\nopen e", "tie a b\ntie c d\ndo a e",
    "\n".join(["lend x y", "back"] * 4), "\n".join(["lend x y"] * 4 + ["back"] * 4),
    "\n".join(["while 0"] * 9 + ["open x"] + ["done"] * 9), "\n".join(["while 0"] * 10 + ["done"] * 10),
    "\n".join(["if 0"] * 9 + ["drop x"] + ["else", "fi"] * 9),
]


def read_or_none(text):
    """The program that is read from the text, or None where it is refused."""
    try:
        return read_program(text)
    except NoText:
        return None


class Written(unittest.TestCase):
    def test_programs(self):
        for name, (program, lines, names) in PROGRAMS.items():
            before = copy.deepcopy(program)
            self.assertEqual(show_program(program), "\n".join(lines), name)
            self.assertEqual(program, before, name)

    def test_written_out(self):
        self.assertEqual(show_program([]), "")
        self.assertEqual(show_program([("open", "x")]), "open x")
        self.assertEqual(show_program([("while", -12, [("do", "end", "x")])]), "while -12\ndo end x\ndone")
        self.assertEqual(show_program([("if", 0, [], [("lend", "a", "a", [])])]), "if 0\nelse\nlend a a\nback\nfi")

    def test_beyond_the_bounds(self):
        self.assertEqual(show_program([("open", "x")] * 90), "\n".join(["open x"] * 90))


class Read(unittest.TestCase):
    def test_programs(self):
        for name, (program, lines, names) in PROGRAMS.items():
            read = read_program("\n".join(lines))
            self.assertEqual(read, program, name)
            self.assertIs(is_program(read), True, name)

    def test_kinds(self):
        self.assertIs(type(read_program("")), list)
        step = read_program("if -5\nopen x\nelse\nfi")[0]
        self.assertEqual([type(part) for part in step], [str, int, list, list])
        self.assertIs(type(step[2][0]), tuple)

    def test_bounds_of_sixty_figures(self):
        for number in ("9" * 60, "1" + "0" * 59, "9" * 59, "0", "1"):
            for text in (number, "-" + number):
                if text != "-0":
                    self.assertEqual(read_program(f"while {text}\ndone"), [("while", int(text), [])])
                    self.assertEqual(read_program(f"if {text}\nelse\nfi"), [("if", int(text), [], [])])

    def test_eight_and_nine_blocks_round_a_step(self):
        for heads, ends in ((["while 0"], ["done"]), (["if 0"], ["else", "fi"]), (["if 0", "else"], ["fi"])):
            for count in range(0, 12):
                read = read_or_none("\n".join(heads * count + ["open x"] + ends * count))
                self.assertEqual(read is not None, count <= 8, (heads, count))

    def test_sixty_and_sixty_one_lines(self):
        for count in range(50, 70):
            self.assertEqual(read_or_none("\n".join(["drop x"] * count)) is not None, count <= 60)
            text = "\n".join(["while 1"] + ["drop x"] * (count - 2) + ["done"])
            self.assertEqual(read_or_none(text) is not None, count <= 60)

    def test_four_and_five_names(self):
        for count in range(1, 8):
            text = "\n".join("open " + letter for letter in "abcdefgh"[:count])
            self.assertEqual(read_or_none(text) is not None, count <= 4)

    def test_three_and_four_lends(self):
        for count in range(0, 7):
            for text in ("\n".join(["lend x y", "back"] * count), "\n".join(["lend x y"] * count + ["back"] * count)):
                self.assertEqual(read_or_none(text) is not None, count <= 3)

    def test_what_is_written_is_read_to_an_equal_program(self):
        chance = random.Random(18)
        told = {True: 0, False: 0}
        for turn in range(2000):
            program = random_steps(chance, ["a", "b", "open", "end", "fi"][:1 + turn % 5], turn % 5, 4)
            lines, names, lends, around = bounds_of_lines(lines_of(program))
            is_one = lines <= 60 and names <= 4 and lends <= 3 and around <= 8
            self.assertEqual(read_or_none(show_program(program)), program if is_one else None)
            told[is_one] += 1
        self.assertGreater(min(told.values()), 100, told)

    def test_unlike_programs_have_unlike_texts(self):
        chance = random.Random(19)
        seen = {}
        for turn in range(2000):
            program = random_steps(chance, ["a", "b"], 2, 2)
            self.assertEqual(seen.setdefault(show_program(program), program), program)
        self.assertGreater(len(seen), 500)


class Refused(unittest.TestCase):
    def refuse(self, text):
        with self.assertRaises(NoText, msg=ascii(text[:80]) if isinstance(text, str) else None):
            read_program(text)

    def test_lines(self):
        for line in NO_LINES:
            for text in (line, "open x\n" + line, line + "\nopen x", "while 1\n" + line + "\ndone",
                         line + "\nback", line + "\ndone", line + "\nelse\nfi", "if 1\n" + line + "\nelse\nfi",
                         "if 1\nelse\n" + line + "\nfi", "lend x y\n" + line + "\nback"):
                # The text of no signs is that of the program of no steps.
                if text != "":
                    self.refuse(text)

    def test_closing_lines_in_other_words(self):
        for text in ("lend x y\nback ", "lend x y\n back", "lend x y\nBack", "lend x y\nback x", "while 1\ndone ", "while 1\nend",
                     "if 1\nelse \nfi", "if 1\nelse\nfi ", "if 1\nElse\nfi", "if 1\nelse\nend", "if 1\nelse\nif 1"):
            self.refuse(text)

    def test_texts(self):
        for text in NO_TEXTS:
            self.refuse(text)

    def test_what_is_no_program_is_not_read_from_its_lines(self):
        for name, thing in NO_PROGRAMS.items():
            try:
                text = show_program(thing)
            except (TypeError, IndexError, AttributeError, ValueError):
                continue
            read = read_or_none(text)
            if read is not None:
                self.assertEqual(show_program(read), text, name)
                self.assertNotEqual(read, thing, name)

    def test_one_line_changed_is_another_program_or_none(self):
        lines = every_kind()[1]
        others = lines + ["done", "open x", "", "while 0", "if 1", "lend a a"]
        changed = [lines[:at] + lines[at + 1:] for at in range(len(lines))]
        changed += [lines[:at] + [line] + lines[at:] for at in range(len(lines) + 1) for line in others]
        changed += [lines[:at] + [line] + lines[at + 1:] for at in range(len(lines)) for line in others]
        changed += [lines[:at] + lines[at + 1:at + 2] + [lines[at]] + lines[at + 2:] for at in range(len(lines))]
        self.check_changed(["\n".join(part) for part in changed])

    def test_one_sign_changed_is_another_program_or_none(self):
        signs = " \n-019abxAZ\t"
        for text in (EVERY, "", "while -10\ndone", "if 0\nelse\nfi", "lend a b\nback"):
            changed = [text[:at] + text[at + 1:] for at in range(len(text))]
            changed += [text[:at] + sign + text[at:] for at in range(len(text) + 1) for sign in signs]
            changed += [text[:at] + sign + text[at + 1:] for at in range(len(text)) for sign in signs]
            self.check_changed(changed)

    def check_changed(self, texts):
        for text in texts:
            read = read_or_none(text)
            if read is not None:
                self.assertIs(is_program(read), True, text)
                self.assertEqual(show_program(read), text)

    def test_very_long_texts(self):
        for text in ("open x\n" * 200000, "while 0\n" * 200000, "\n".join(["while 0"] * 60), "\n".join(["if 0"] * 60),
                     "\n" * 1000000, "x" * 1000000, " " * 1000000, "while " + "1" * 1000000 + "\ndone",
                     "\n".join(["if 0"] * 2000 + ["else", "fi"] * 2000), "\n".join(["else"] * 60), "open " + "x" * 1000000):
            self.refuse(text)

    def test_things_that_are_no_text(self):
        for thing in (*odd_things(), door(), [], [("open", "x")], every_kind()[0], every_kind()[1], EVERY.encode(), b"", 10 ** 5000):
            self.refuse(thing)

    def test_it_is_a_refusal(self):
        with self.assertRaises(UseError):
            read_program("x")


class Own(unittest.TestCase):
    def test_every_list_is_new(self):
        for name, (program, lines, names) in PROGRAMS.items():
            text = "\n".join(lines)
            one = read_program(text)
            self.assertTrue(are_apart(one, read_program(text)), name)
            spoil(one)
            self.assertEqual(read_program(text), program, name)

    def test_what_is_done_later_to_a_program_that_was_written(self):
        program = nested("while", 3)
        text = show_program(program)
        spoil(program)
        self.assertEqual(text, "while 2\nwhile 1\nwhile 0\ndone\ndone\ndone")


if __name__ == "__main__":
    unittest.main()
