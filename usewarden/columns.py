"""Columns: at which rows of a code a watch must look, or step, for a rule."""

from usewarden.papers import paper_of
from usewarden.tokens import any_breaks, any_moves


def mark_of(code, rule, at, tokens):
    """Tell the mark of the row, where the rule is broken at some row and the tokens may stand at this one."""
    if any_breaks(code, rule, at, tokens):
        return "look"
    # Behind the end no room is asked for any more.
    if code[at][0] != "end" and any_moves(code, rule, at, tokens):
        return "step"
    return "none"


def column_of(code, rule):
    """Tell the column of the code and the rule, by its paper."""
    paper = paper_of(code, rule)
    column = [mark_of(code, rule, at, tokens) for at, tokens in enumerate(paper)]
    # Rooms are kept for looks alone.
    return column if "look" in column else ["none" for mark in column]
