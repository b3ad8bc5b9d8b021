"""Rules laid together: one rule that is broken where one of them is, with the blame for it."""

from usewarden.errors import TooGreat
from usewarden.pairs import refuse_unlike, ways_by_room
from usewarden.rules import MOST_ROOMS, MOST_WORDS


def words_of_all(rules):
    """Tell the words of all the rules, rising, each once."""
    words = []
    for rule in rules:
        words.extend(rule[1])
    return sorted(set(words))


def rooms_behind(ways, here, width):
    """Tell for each of so many words the rooms, one of each rule, to which it leads from the rooms here.

    None stands for the room of a rule that it breaks.
    """
    return [tuple([way[room][at] for way, room in zip(ways, here)]) for at in range(width)]


def blame_of(rooms):
    """Tell the place of the first rule that is broken there, or None."""
    return rooms.index(None) if None in rooms else None


def laid_by(ways, width):
    """Tell the rooms and the blames of rules, by their ways for so many words, laid together; refuse too many rooms."""
    first = tuple([0 for way in ways])
    order = [first]
    numbers = {first: 0}
    rooms = []
    blames = []
    while len(rooms) < len(order):
        behind = rooms_behind(ways, order[len(rooms)], width)
        for there in behind:
            if None not in there and there not in numbers:
                numbers[there] = len(order)
                order.append(there)
        # Asked at each turn, for eight rules may come to very many.
        if len(order) > MOST_ROOMS:
            raise TooGreat("the rules laid together have too many rooms")
        # What breaks a rule has no number: so None stands for it.
        rooms.append([numbers.get(there) for there in behind])
        blames.append([blame_of(there) for there in behind])
    return (rooms, blames)


def laid_rules(rules):
    """Tell the rules of the list laid together, and the blames; refuse unlike sides, and what is too great."""
    bare = [named[1] for named in rules]
    for rule in bare:
        refuse_unlike(bare[0], rule)
    words = words_of_all(bare)
    if len(words) > MOST_WORDS:
        raise TooGreat("the rules laid together have too many words")
    laid = laid_by([ways_by_room(rule, words) for rule in bare], len(words))
    return ((bare[0][0], words, laid[0]), laid[1])
