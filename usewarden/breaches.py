"""Breaches in logs, be they logs of runs or not."""

from usewarden.watches import all_begin_tie, broken_or_gone_on, row_of, watches_of


def breach_by(watches, log, at):
    """Tell the breach of the entry at that place; where there is none let the watches go on by it, and tell None."""
    entry = log[at]
    if len(entry) == 3:
        all_begin_tie(watches, entry[1], entry[2], at + 1)
        return None
    # A log has no rows of a code: its watches look at each deed.
    broken = broken_or_gone_on(watches, None, entry[1], entry[2])
    if broken is None:
        return None
    start = broken[1]
    handles = broken[2]
    return (at, broken[0], list(handles), row_of(log[start:at + 1], handles))


def breach_in(rules, log):
    """Tell the first breach of the rules in the log, or None."""
    watches = watches_of(rules)
    for at in range(len(log)):
        breach = breach_by(watches, log, at)
        if breach is not None:
            return breach
    return None
