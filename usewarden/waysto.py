"""Ways to rows of a code: inputs with which a run comes there and a rule is broken."""

from usewarden.papers import made_of
from usewarden.tokens import begins_at, breaks_at, rows_behind


def made_at(code, rule, at, token):
    """Tell what the row makes of a token, or of None: of a run that comes there, whatever handles it has."""
    if token is None:
        return [None] + begins_at(code, rule, at, [])
    return made_of(code, rule, at, token)


def places_behind(code, rule, place):
    """Tell the places, each a row's number and a token or None, that may come behind the place."""
    at = place[0]
    made = made_at(code, rule, at, place[1])
    behind = []
    for number in rows_behind(code, at):
        behind.extend([(number, token) for token in made])
    return behind


def inputs_by(code, came, place):
    """Tell the inputs that lead to the place, by the place that each one came from."""
    inputs = []
    here = place
    while came[here] is not None:
        ahead = came[here]
        row = code[ahead[0]]
        if row[0] == "test":
            inputs.append(row[2] + 1 if here[0] == ahead[0] + 1 else row[2])
        here = ahead
    return list(reversed(inputs))


def ways_to(code, rule, rows):
    """Tell ways to those of the rows to which there is one, by their numbers; all are found by one search."""
    # No place is gone through twice, so there are no more inputs than rows (with None) and tokens of the paper.
    came = {(0, None): None}
    order = [(0, None)]
    ways = {}
    turn = 0
    while turn < len(order) and len(ways) < len(rows):
        place = order[turn]
        at = place[0]
        if at in rows and at not in ways and breaks_at(code, rule, at, place[1]):
            ways[at] = inputs_by(code, came, place)
        for behind in places_behind(code, rule, place):
            if behind not in came:
                came[behind] = place
                order.append(behind)
        turn = turn + 1
    return ways


def way_to(code, rule, at):
    """Tell inputs with which a run comes to the row and there a handle or a tie first breaks the rule, or None."""
    # Only deeds break a rule: so to other rows nothing need be sought.
    if code[at][0] not in ("open", "do", "end"):
        return None
    return ways_to(code, rule, [at]).get(at)
