"""Rules joined, and either of two rules."""

from usewarden.errors import TooGreat
from usewarden.leastrules import least_upto
from usewarden.pairs import pairs_behind, refuse_unlike, ways_by_room, words_of_both
from usewarden.rules import MOST_ROOMS, MOST_WORDS


def breaks_one(pair):
    """Tell whether one of both rules at least is broken."""
    return pair[0] is None or pair[1] is None


def breaks_both(pair):
    """Tell whether both rules are broken."""
    return pair[0] is None and pair[1] is None


def rule_of_pairs(one, other, breaks):
    """Tell a rule with a room for each pair to which a row leads, but for those that break it; be it least or not."""
    words = words_of_both(one, other)
    ones = ways_by_room(one, words)
    others = ways_by_room(other, words)
    order = [(0, 0)]
    numbers = {(0, 0): 0}
    rooms = []
    while len(rooms) < len(order):
        here = order[len(rooms)]
        room = []
        for pair in pairs_behind(ones, others, here):
            if pair not in numbers and not breaks(pair):
                numbers[pair] = len(order)
                order.append(pair)
            # A pair that breaks has no number: so None stands for it.
            room.append(numbers.get(pair))
        rooms.append(room)
    return (one[0], words, rooms)


def least_of_pairs(one, other, breaks):
    """Tell the least rule of the pairs of both rules; refuse unlike sides, and what is too great when it is least."""
    refuse_unlike(one, other)
    least = least_upto(rule_of_pairs(one, other, breaks), MOST_ROOMS)
    if least is None or len(least[1]) > MOST_WORDS:
        raise TooGreat("what comes has too many rooms or words")
    return least


def joined_rule(one, other):
    """Tell the least rule that a row keeps where it keeps both."""
    return least_of_pairs(one, other, breaks_one)


def either_rule(one, other):
    """Tell the least rule that a row keeps where it keeps one of them at least."""
    return least_of_pairs(one, other, breaks_both)
