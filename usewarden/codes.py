"""The code of a program, and its turned code."""

from usewarden.numbered import line_behind, numbered_steps
from usewarden.programs import lines_of, names_of


def lend_lines(program):
    """Tell the numbers of the lines at which the program lends."""
    return [at for at, line in enumerate(lines_of(program)) if line.startswith("lend ")]


def slots_of(program):
    """Tell the slot of each name, and of each lend by the number of its line."""
    slots = {}
    for slot, holder in enumerate(names_of(program) + lend_lines(program)):
        slots[holder] = slot
    return slots


def simple_row(step, slots):
    """Tell the row of a step that has no steps within it."""
    line = step.lines[0]
    if step.kind == "do":
        return ("do", line, slots[step.parts[1]], step.parts[0])
    return (step.kind, line) + tuple([slots[name] for name in step.parts])


def lend_rows(step, at, slots, turned):
    """Tell the rows of a lend, the first of them being that with the number at."""
    line = step.lines[0]
    back = step.lines[1]
    giver = slots[step.parts[0]]
    taker = slots[step.parts[1]]
    # By the line, not by the turn: in turned code one lend has rows at several places, all with the same slot.
    lent = slots[line]
    ahead = [("copy", line, lent, giver), ("do", line, lent, "lend"), ("copy", line, taker, lent)]
    within = rows_of(step.blocks[0], at + len(ahead), slots, turned)
    return ahead + within + [("do", back, lent, "back"), ("drop", back, taker), ("drop", back, lent)]


def if_rows(step, at, slots, turned):
    """Tell the rows of an if, the first of them being that with the number at."""
    more = rows_of(step.blocks[0], at + 1, slots, turned)
    jump = at + 1 + len(more)
    rest = rows_of(step.blocks[1], jump + 1, slots, turned)
    behind = jump + 1 + len(rest)
    test = ("test", step.lines[0], step.parts[0], jump + 1)
    return [test] + more + [("jump", step.lines[1], behind)] + rest


def loop_rows(step, at, slots):
    """Tell the rows of a while, not turned, the first of them being that with the number at."""
    within = rows_of(step.blocks[0], at + 1, slots, False)
    behind = at + 1 + len(within) + 1
    return [("test", step.lines[0], step.parts[0], behind)] + within + [("jump", step.lines[1], at)]


def while_rows(step, at, slots, turned):
    """Tell the rows of a while, the first of them being that with the number at; turned, its first round is ahead."""
    if not turned:
        return loop_rows(step, at, slots)
    first = rows_of(step.blocks[0], at + 1, slots, True)
    loop = loop_rows(step, at + 1 + len(first), slots)
    behind = at + 1 + len(first) + len(loop)
    return [("test", step.lines[0], step.parts[0], behind)] + first + loop


def rows_of(steps, at, slots, turned):
    """Tell the rows of the numbered steps, the first of them being that with the number at."""
    rows = []
    for step in steps:
        place = at + len(rows)
        if step.kind == "lend":
            rows.extend(lend_rows(step, place, slots, turned))
        elif step.kind == "if":
            rows.extend(if_rows(step, place, slots, turned))
        elif step.kind == "while":
            rows.extend(while_rows(step, place, slots, turned))
        else:
            rows.append(simple_row(step, slots))
    return rows


def rows_and_end(program, turned):
    """Tell the rows of the program, turned or not, with that of the end."""
    steps = numbered_steps(program, 0)
    return rows_of(steps, 0, slots_of(program), turned) + [("end", line_behind(steps, 0))]


def code_of(program):
    """Tell the code of the program."""
    return rows_and_end(program, False)


def turned_code(program):
    """Tell the turned code of the program."""
    return rows_and_end(program, True)
