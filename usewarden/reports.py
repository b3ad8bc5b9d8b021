"""Reports: from the texts of rules and of a program to the text of its guarded run."""

from usewarden.errors import Breach, NoText
from usewarden.guards import guard_of, run_guarded
from usewarden.lists import read_rules
from usewarden.progtexts import read_program
from usewarden.rules import is_whole
from usewarden.shortest import shortest_breach


def is_input(thing):
    """Tell whether the thing is a whole number of at most sixty-one figures."""
    return is_whole(thing) and abs(thing) < 10 ** 61


def are_inputs(thing):
    """Tell whether the thing is a list of inputs."""
    return isinstance(thing, list) and all([is_input(part) for part in thing])


def joined(parts):
    """Write the parts, a blank between two."""
    return " ".join([str(part) for part in parts])


def text_of(log, last):
    """Write a log, with the last line behind it."""
    return "\n".join([joined(entry) for entry in log] + [last])


def rule_named(rules, name):
    """Tell the rule of that name."""
    return [rule for other, rule in rules if other == name][0]


def broken_line(rules, breach):
    """Write the breach that stopped a run, as short as it can be told."""
    places = shortest_breach(rule_named(rules, breach.rule), breach.row)
    ahead = joined(["broken", breach.line, breach.rule] + breach.handles)
    return ahead + ": " + joined([breach.row[place] for place in places])


def report(rules, program, inputs):
    """Tell the report of the texts of rules and of a program, and of inputs; refuse what is none of these."""
    named = read_rules(rules)
    steps = read_program(program)
    if not are_inputs(inputs):
        raise NoText("these are no inputs")
    guard = guard_of(steps, named)
    try:
        log = run_guarded(guard, inputs)
    except Breach as breach:
        return text_of(breach.log, broken_line(named, breach))
    return text_of(log, "kept")
