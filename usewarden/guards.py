"""Guards: a program's turned code, and its rules laid together, with every needless watch off."""

from usewarden.coderuns import log_of
from usewarden.codes import turned_code
from usewarden.columns import column_of
from usewarden.follows import needed_rules
from usewarden.laid import laid_rules
from usewarden.runs import Run
from usewarden.watches import Watch
from usewarden.waysto import ways_to


class Layer:
    """Rules of as many sides laid together, the column of a code for them, and, by the line, a way to each look.

    The blames tell the place of a rule among all that are needed, and its name.
    """

    def __init__(self, rule, blames, column, ways):
        self.rule = rule
        self.blames = blames
        self.column = column
        self.ways = ways


class Guard:
    """A turned code, and the layers that watch its runs: one of the rules of one side, one of those of two, if any."""

    def __init__(self, code, layers):
        self.code = code
        self.layers = layers


def laid_of_sides(needed, sides):
    """Tell the needed rules of so many sides laid together, and the blames among all; None where there are none."""
    places = [place for place, named in enumerate(needed) if named[1][0] == sides]
    if len(places) == 0:
        return None
    laid = laid_rules([needed[place] for place in places])
    marks = [(place, needed[place][0]) for place in places]
    return (laid[0], [[None if blame is None else marks[blame] for blame in blamed] for blamed in laid[1]])


def look_rows(code, column):
    """Tell, by the line, the number of its first row with a look."""
    rows = {}
    for at, mark in enumerate(column):
        if mark == "look":
            rows.setdefault(code[at][1], at)
    return rows


def layer_of(code, rule, blames):
    """Tell the layer of a code, and of rules laid together with their blames."""
    column = column_of(code, rule)
    rows = look_rows(code, column)
    found = ways_to(code, rule, list(rows.values()))
    ways = {}
    for line, at in rows.items():
        # To each row with a look there is a way.
        ways[line] = found[at]
    return Layer(rule, blames, column, ways)


def guard_of(program, rules):
    """Tell a guard of the program by the list of rules; refuse rules that are too great when they are laid together."""
    needed = needed_rules(rules)
    # All are laid ahead of the columns, which may take long, so that a refusal comes at once.
    laid = [laid_of_sides(needed, sides) for sides in (1, 2)]
    code = turned_code(program)
    return Guard(code, [layer_of(code, pair[0], pair[1]) for pair in laid if pair is not None])


def run_guarded(guard, inputs):
    """Tell the log of the guarded run with the inputs; refuse the first deed that would break a rule."""
    watches = [Watch(layer.rule, layer.blames, layer.column) for layer in guard.layers]
    return log_of(guard.code, Run(inputs, watches))


def looks_of(guard):
    """Tell the lines at which the guarded run looks, rising, each once."""
    lines = []
    for layer in guard.layers:
        lines.extend(list(layer.ways))
    return sorted(set(lines))


def inputs_to(guard, line):
    """Tell inputs with which a handle or a tie first breaks a rule at a deed of the line, or None."""
    for layer in guard.layers:
        if line in layer.ways:
            return list(layer.ways[line])
    return None
