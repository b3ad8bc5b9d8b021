"""Watched runs of codes: each deed is looked at by all rules ahead of it."""

from usewarden.coderuns import log_of
from usewarden.runs import Run
from usewarden.watches import watches_of


def run_watched(code, rules, inputs):
    """Tell the log of the code's run with the inputs; refuse the first deed that would break a rule."""
    return log_of(code, Run(inputs, watches_of(rules)))
