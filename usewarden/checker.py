"""The checker: whether a paper is closed, and lets a column by."""

from usewarden.tokens import any_breaks, any_moves, begins_at, behind_at, rows_behind


def tokens_asked(code, rule, at, tokens):
    """Tell the tokens that must stand at all rows behind the row, where those told stand at it."""
    behind = [behind_at(code, rule, at, token) for token in tokens]
    return begins_at(code, rule, at, tokens) + [token for token in behind if token is not None]


def table_of(tokens):
    """Tell a dict that has the tokens, for in a long list each would be sought from its start on."""
    table = {}
    for token in tokens:
        table[token] = True
    return table


def is_closed(code, rule, paper):
    """Tell whether the paper is closed."""
    tables = [table_of(tokens) for tokens in paper]
    for at, tokens in enumerate(paper):
        asked = tokens_asked(code, rule, at, tokens)
        for place in rows_behind(code, at):
            if not all([token in tables[place] for token in asked]):
                return False
    return True


def is_row_let_by(code, rule, at, tokens, mark):
    """Tell whether the row may have the mark in a column that isn't `none` alone, where the tokens stand at it."""
    if mark == "look":
        return True
    # Behind the end no room is asked for any more.
    if mark == "step" or code[at][0] == "end":
        return not any_breaks(code, rule, at, tokens)
    return not any_moves(code, rule, at, tokens)


def is_column_let_by(code, rule, paper, column):
    """Tell whether the column fits the paper, be it closed or not."""
    rows = list(enumerate(paper))
    if all([mark == "none" for mark in column]):
        # Where nothing is ever looked at, it is all one which rooms are kept.
        return not any([any_breaks(code, rule, at, tokens) for at, tokens in rows])
    return all([is_row_let_by(code, rule, at, tokens, column[at]) for at, tokens in rows])


def lets_by(code, rule, paper, column):
    """Tell whether the checker lets the paper and the column by."""
    return is_column_let_by(code, rule, paper, column) and is_closed(code, rule, paper)
