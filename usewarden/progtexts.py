"""Programs written as texts, and read from them."""

from usewarden.errors import NoText
from usewarden.figures import number_in
from usewarden.programs import MOST_LINES, closers_of, is_program, lines_of

ENDS = ("back", "else", "fi", "done")
MOST_FIGURES = 60


def show_program(program):
    """Write a program."""
    return "\n".join(lines_of(program))


def bound_in(text):
    """Tell the bound that the text may mean, or None where it means none."""
    if not text.startswith("-"):
        return number_in(text, MOST_FIGURES)
    number = number_in(text[1:], MOST_FIGURES)
    return None if number is None else -number


def head_in(line):
    """Tell a step without its lists of steps, as the line may mean it."""
    parts = line.partition(" ")
    if parts[0] in ("if", "while"):
        return (parts[0], bound_in(parts[2]))
    return tuple(line.split(" "))


def step_from(lines, at):
    """Tell a step as the lines from that one on may mean it, and the number of the line behind it."""
    head = head_in(lines[at])
    blocks = []
    place = at + 1
    for closer in closers_of(head[0]):
        read = steps_from(lines, place)
        blocks.append(read[0])
        # Whether the closer stands there isn't asked: any other line comes to light when the program is written again.
        place = read[1] + 1
    return (head + tuple(blocks), place)


def steps_from(lines, at):
    """Tell the steps up to the next line that ends a list of steps, and the number of that line."""
    steps = []
    place = at
    while place < len(lines) and lines[place] not in ENDS:
        read = step_from(lines, place)
        steps.append(read[0])
        place = read[1]
    return (steps, place)


def lines_in(text):
    """Tell the lines of the text; that of no signs has none."""
    return [] if text == "" else text.split("\n")


def read_program(text):
    """Tell the program that is written so; refuse all else."""
    if not isinstance(text, str):
        raise NoText("this is no text")
    lines = lines_in(text)
    # Counted ahead, so that lists of steps are never read deeper in one another than there can be lines.
    if len(lines) > MOST_LINES:
        raise NoText("this has too many lines for a program")
    program = steps_from(lines, 0)[0]
    # Only what is written of a program is read to one: so what was taken loosely above is caught here.
    if not is_program(program) or show_program(program) != text:
        raise NoText("this is not the text of a program")
    return program
