"""Kept runs of codes: rules watch them, but no more than their columns tell."""

from usewarden.coderuns import log_of
from usewarden.runs import Run
from usewarden.watches import watch_of


def run_kept(code, rules, columns, inputs):
    """Tell the log of the code's run with the inputs; refuse the first deed that is seen to break a rule."""
    watches = [watch_of(place, named, columns[place]) for place, named in enumerate(rules)]
    return log_of(code, Run(inputs, watches))
