"""Whether one rule follows from another, and which rules of a list are needed."""

from usewarden.pairs import pairs_behind, refuse_unlike, ways_by_room, words_of_both
from usewarden.rules import copy_of


def row_to(came, at):
    """Tell the row that led to the pair at that place, by where each pair came from and by which word."""
    row = []
    place = at
    while came[place] is not None:
        row.append(came[place][1])
        place = came[place][0]
    return list(reversed(row))


def row_apart(other, one):
    """Tell the least row that keeps the other and breaks the one, or None."""
    refuse_unlike(other, one)
    words = words_of_both(other, one)
    others = ways_by_room(other, words)
    ones = ways_by_room(one, words)
    # Pairs stand in the order of the least rows that lead to them, so the first row found is the least one.
    order = [(0, 0)]
    came = [None]
    met = {(0, 0): True}
    at = 0
    while at < len(order):
        here = order[at]
        for word, pair in zip(words, pairs_behind(others, ones, here)):
            if pair[0] is None or pair in met:
                continue
            if pair[1] is None:
                return row_to(came, at) + [word]
            met[pair] = True
            order.append(pair)
            came.append((at, word))
        at = at + 1
    return None


def follows_from(rule, ahead):
    """Tell whether the rule is of as many sides as the one ahead and follows from it."""
    return rule[0] == ahead[0] and row_apart(ahead, rule) is None


def needed_rules(rules):
    """Tell the rules of the list, in order, that do not follow from any one ahead of them."""
    needed = []
    for at, named in enumerate(rules):
        if not any([follows_from(named[1], ahead[1]) for ahead in rules[:at]]):
            needed.append((named[0], copy_of(named[1])))
    return needed
