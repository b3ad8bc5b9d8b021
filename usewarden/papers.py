"""Papers: for each row of a code, how handles may stand there for a rule."""

from usewarden.tokens import begins_at, behind_at, rows_behind


def made_of(code, rule, at, token):
    """Tell what the row makes of a token: what begins by it, and the token itself, if there is one behind the row."""
    begun = begins_at(code, rule, at, [token])
    behind = behind_at(code, rule, at, token)
    return begun if behind is None else begun + [behind]


def put(found, rows, tokens):
    """Put the tokens in what was found of all these rows; tell those that are new there, each with its row."""
    new = []
    for at in rows:
        for token in tokens:
            if token not in found[at]:
                found[at][token] = True
                new.append((at, token))
    return new


def paper_of(code, rule):
    """Tell the paper of the code and the rule: the least closed one."""
    found = [{} for row in code]
    waiting = []
    for at in range(len(code)):
        waiting.extend(put(found, rows_behind(code, at), begins_at(code, rule, at, [])))
    while len(waiting) > 0:
        place = waiting.pop()
        at = place[0]
        waiting.extend(put(found, rows_behind(code, at), made_of(code, rule, at, place[1])))
    return [sorted(tokens) for tokens in found]
