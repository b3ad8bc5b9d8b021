"""Lists of rules written as texts, and read from them."""

from usewarden.errors import NoText
from usewarden.progtexts import lines_in
from usewarden.rules import is_word
from usewarden.ruletexts import read_rule, show_rule

MOST_RULES = 8


def show_named(named):
    """Write a rule with its name."""
    return named[0] + " " + show_rule(named[1])


def show_rules(rules):
    """Write a list of rules."""
    return "\n".join([show_named(named) for named in rules])


def named_in(line):
    """Tell the rule with its name that is written so; refuse all else."""
    parts = line.partition(" ")
    if not is_word(parts[0]):
        raise NoText("a line begins with no name")
    return (parts[0], read_rule(parts[2]))


def read_rules(text):
    """Tell the list of rules that is written so; refuse all else."""
    if not isinstance(text, str):
        raise NoText("this is no text")
    lines = lines_in(text)
    if len(lines) > MOST_RULES:
        raise NoText("these are too many rules for a list")
    rules = [named_in(line) for line in lines]
    if len(set([named[0] for named in rules])) < len(rules):
        raise NoText("two rules have one name")
    return rules
