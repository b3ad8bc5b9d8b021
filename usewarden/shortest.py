"""Shortest breaches: the fewest places of a row whose texts break a rule by themselves."""

from usewarden.rules import next_room, room_after


def breaks_with_last(rule, row):
    """Tell whether the row breaks the rule with its last text, and not ahead of it."""
    if len(row) == 0:
        return False
    room = room_after(rule, row[:-1])
    return room is not None and next_room(rule, room, row[-1]) is None


def moves_of(rule):
    """Tell, by each word of the rule, the rooms in which it breaks nothing, each with that to which it leads."""
    moves = {}
    for place, word in enumerate(rule[1]):
        moves[word] = [(number, room[place]) for number, room in enumerate(rule[2]) if room[place] is not None]
    return moves


def counts_ahead(counts, moves):
    """Tell the counts, by rooms, ahead of a place whose text has the moves, of those behind it."""
    fewer = [(room, counts[way] + 1) for room, way in moves if counts[way] + 1 < counts[room]]
    if len(fewer) == 0:
        # One list for all places with these counts: a row may be very long, but each room's count falls but seldom.
        return counts
    ahead = list(counts)
    for room, count in fewer:
        ahead[room] = count
    return ahead


def counts_by_place(rule, row):
    """Tell for each place of the row the counts, by rooms: how few texts from there on break the rule with the last.

    Where none do, the count is more than the row has texts.
    """
    never = len(row) + 1
    moves = moves_of(rule)
    last = [1 if next_room(rule, room, row[-1]) is None else never for room in range(len(rule[2]))]
    counts = [last]
    for text in reversed(row[:-1]):
        counts.append(counts_ahead(counts[-1], moves.get(text, [])))
    return list(reversed(counts))


def shortest_breach(rule, row):
    """Tell the shortest breach of the row, which breaks the rule with its last text and not ahead; else None."""
    if not breaks_with_last(rule, row):
        return None
    counts = counts_by_place(rule, row)
    places = []
    room = 0
    for at in range(len(row) - 1):
        way = next_room(rule, room, row[at])
        # The first place after which fewer texts are left to come is the least one, of all lists as short.
        if way is not None and counts[at + 1][way] < counts[at][room]:
            places.append(at)
            room = way
    return places + [len(row) - 1]
