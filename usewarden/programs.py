"""What a program is, its lines and its names."""

from usewarden.rules import is_whole, is_word

# What stands behind the first text of each kind of step.
PARTS = {
    "open": ("name",),
    "do": ("word", "name"),
    "copy": ("name", "name"),
    "drop": ("name",),
    "tie": ("name", "name"),
    "lend": ("name", "name", "steps"),
    "if": ("bound", "steps", "steps"),
    "while": ("bound", "steps"),
}
# The lines behind each list of steps that a step has.
CLOSERS = {"lend": ("back",), "if": ("else", "fi"), "while": ("done",)}
MOST_LINES = 60
MOST_NAMES = 4
MOST_LENDS = 3
MOST_AROUND = 8


def closers_of(kind):
    """Tell the lines that stand behind the lists of steps of a step of that kind, one for each list."""
    return CLOSERS.get(kind, ())


def head_of(step):
    """Tell the step without its lists of steps."""
    return step[:len(step) - len(closers_of(step[0]))]


def blocks_of(step):
    """Tell the lists of steps of the step."""
    return step[len(head_of(step)):]


def is_bound(thing):
    """Tell whether the thing is a whole number of at most sixty figures."""
    return is_whole(thing) and abs(thing) < 10 ** 60


def is_part(thing, kind):
    """Tell whether the thing can be a part of that kind, whatever a list of steps has in it."""
    if kind == "steps":
        return isinstance(thing, list)
    if kind == "bound":
        return is_bound(thing)
    return is_word(thing)


def is_like_step(thing):
    """Tell whether the thing is a step, whatever its lists of steps have in them."""
    if not isinstance(thing, tuple) or len(thing) == 0:
        return False
    if not isinstance(thing[0], str) or thing[0] not in PARTS:
        return False
    kinds = PARTS[thing[0]]
    if len(thing) != 1 + len(kinds):
        return False
    return all([is_part(part, kind) for part, kind in zip(thing[1:], kinds)])


def gathers_steps(things, around, steps):
    """Tell whether the things are steps within so many others, not too deep and too many; put them behind the steps."""
    for thing in things:
        # Each step has a line, so there is an end here even of lists that stand in themselves or at many places.
        if around > MOST_AROUND or len(steps) == MOST_LINES or not is_like_step(thing):
            return False
        steps.append(thing)
        for block in blocks_of(thing):
            if not gathers_steps(block, around + 1, steps):
                return False
    return True


def steps_within(program):
    """Tell all steps of the program in the order of their lines, those within others too."""
    steps = []
    for step in program:
        steps.append(step)
        for block in blocks_of(step):
            steps.extend(steps_within(block))
    return steps


def names_in(steps):
    """Tell the names that the steps have themselves, in order, each once."""
    names = {}
    for step in steps:
        for part, kind in zip(step[1:], PARTS[step[0]]):
            if kind == "name":
                names[part] = True
    return list(names)


def is_program(thing):
    """Tell whether the thing is a program."""
    steps = []
    if not isinstance(thing, list) or not gathers_steps(thing, 0, steps):
        return False
    kinds = [step[0] for step in steps]
    lines = sum([1 + len(closers_of(kind)) for kind in kinds])
    return lines <= MOST_LINES and kinds.count("lend") <= MOST_LENDS and len(names_in(steps)) <= MOST_NAMES


def lines_of(program):
    """Tell the lines of the program."""
    lines = []
    for step in program:
        lines.append(" ".join([str(part) for part in head_of(step)]))
        for block, closer in zip(blocks_of(step), closers_of(step[0])):
            lines.extend(lines_of(block))
            lines.append(closer)
    return lines


def names_of(program):
    """Tell the names of the program in the order in which they come first in its lines, each once."""
    return names_in(steps_within(program))
