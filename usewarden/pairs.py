"""Two rules gone through by one row at once: in each the row leads to a room, or to None, where it broke the rule."""

from usewarden.errors import NoFit


def refuse_unlike(one, other):
    """Refuse two rules of unlike sides."""
    if one[0] != other[0]:
        raise NoFit("the rules have unlike sides")


def words_of_both(one, other):
    """Tell the words of both rules, rising, each once."""
    return sorted(set(one[1]) | set(other[1]))


def ways_for(words, places, number, room):
    """Tell where each of the words leads from the room: those that aren't the rule's leave it there."""
    return [room[places[word]] if word in places else number for word in words]


def ways_by_room(rule, words):
    """Tell, by the number of a room or None, where each of the words leads from there."""
    places = {}
    for place, word in enumerate(rule[1]):
        places[word] = place
    ways = {}
    for number, room in enumerate(rule[2]):
        ways[number] = ways_for(words, places, number, room)
    # What begins with a row that breaks a rule breaks it, too.
    ways[None] = [None for word in words]
    return ways


def pairs_behind(ones, others, pair):
    """Tell for each word the pair to which it leads from the pair."""
    return list(zip(ones[pair[0]], others[pair[1]]))
