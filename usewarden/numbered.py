"""The steps of a program with the numbers of their lines."""

from usewarden.programs import blocks_of, head_of


class NumberedStep:
    """A step: its kind, what stands behind that, the numbers of its own lines, and its lists of steps, numbered too."""

    def __init__(self, head, lines, blocks):
        self.kind = head[0]
        self.parts = head[1:]
        self.lines = lines
        self.blocks = blocks


def line_behind(steps, line):
    """Tell the number of the line behind the numbered steps, where they begin at that line."""
    return line if len(steps) == 0 else steps[-1].lines[-1] + 1


def numbered_step(step, line):
    """Tell the step numbered, where it begins at that line."""
    lines = [line]
    blocks = []
    for block in blocks_of(step):
        steps = numbered_steps(block, lines[-1] + 1)
        blocks.append(steps)
        lines.append(line_behind(steps, lines[-1] + 1))
    return NumberedStep(head_of(step), lines, blocks)


def numbered_steps(steps, line):
    """Tell the steps numbered, where they begin at that line."""
    numbered = []
    for step in steps:
        numbered.append(numbered_step(step, line_behind(numbered, line)))
    return numbered
