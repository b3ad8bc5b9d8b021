"""How handles stand at the rows of a code, told by tokens, and what the rows make of these."""

from usewarden.rules import next_room, room_from


def is_in(slot, held):
    """Tell whether the slot is in the sum of slots."""
    return (held >> slot) & 1 == 1


def without(slot, held):
    """Tell the sum of slots with the slot taken out."""
    return held & ~(1 << slot)


def held_behind(row, held):
    """Tell the slots that hold a handle behind the row, where those told hold it ahead of the row."""
    if row[0] == "copy" and is_in(row[3], held):
        return held | (1 << row[2])
    if row[0] in ("open", "copy", "drop"):
        return without(row[2], held)
    return held


def is_of_two(token):
    """Tell whether the token is one of two handles, tied or not."""
    return len(token) > 2


def has_room(token):
    """Tell whether the token has a room: that of one handle, or that of a tie."""
    return len(token) in (2, 4)


def texts_done(row, token):
    """Tell the texts that the deed of a row `do` puts behind the row of a token with a room."""
    slot = row[2]
    word = row[3]
    if not is_of_two(token):
        return [word] if is_in(slot, token[0]) else []
    # No slot holds both handles, so there is one text at most.
    return [f"{side}.{word}" for side in (1, 2) if is_in(slot, token[side - 1])]


def texts_at(row, token):
    """Tell the texts that a row puts behind the row of a token with a room."""
    if row[0] == "do":
        return texts_done(row, token)
    if row[0] != "end":
        return []
    if not is_of_two(token):
        return ["end"]
    # Handles end in the order in which they were opened.
    return ["1.end", "2.end"] if token[2] == 1 else ["2.end", "1.end"]


def room_behind(rule, row, token):
    """Tell the room of a token with a room behind the row, or None where it breaks the rule."""
    return room_from(rule, token[-1], texts_at(row, token))


def begun_by_open(rule, slot, tokens):
    """Tell the tokens that begin where a new handle is held by the slot."""
    new = 1 << slot
    if rule[0] == 1:
        room = next_room(rule, 0, "open")
        return [] if room is None else [(new, room)]
    begun = [(new,)]
    for token in tokens:
        if len(token) == 1:
            held = without(slot, token[0])
            begun.append((held, new, 1))
            begun.append((new, held, 2))
    return begun


def begun_by_tie(one, other, tokens):
    """Tell the tokens that begin where what the slot one holds is tied with what the slot other holds."""
    unlike = [token for token in tokens if len(token) == 3]
    return [token + (0,) for token in unlike if is_in(one, token[0]) and is_in(other, token[1])]


def begins_at(code, rule, at, tokens):
    """Tell the tokens that begin at the row, of those told and by itself: sorted, each once."""
    row = code[at]
    begun = []
    if row[0] == "open":
        begun = begun_by_open(rule, row[2], tokens)
    elif row[0] == "tie":
        begun = begun_by_tie(row[2], row[3], tokens)
    return sorted(set(begun))


def behind_at(code, rule, at, token):
    """Tell the token as it stands behind the row, or None where there is none."""
    row = code[at]
    if row[0] == "end":
        return None
    count = 2 if is_of_two(token) else 1
    behind = tuple([held_behind(row, held) for held in token[:count]]) + token[count:]
    if not has_room(token):
        return behind
    room = room_behind(rule, row, token)
    return None if room is None else behind[:-1] + (room,)


def rooms_at(code, rule, at, token):
    """Tell the rooms of the token, or where it is None of the new handle of an `open`, ahead of the row and behind it.

    The one behind is None where the rule is broken.
    """
    row = code[at]
    if token is None and row[0] == "open" and rule[0] == 1:
        return (0, next_room(rule, 0, "open"))
    if token is None or not has_room(token):
        # What has no room goes nowhere: two equal ones stand for that.
        return (0, 0)
    return (token[-1], room_behind(rule, row, token))


def breaks_at(code, rule, at, token):
    """Tell whether the token, or where it is None the new handle of an `open`, breaks the rule at the row."""
    return rooms_at(code, rule, at, token)[1] is None


def moves_at(code, rule, at, token):
    """Tell whether the room of the token, or where it is None of the new handle of an `open`, stays not as it was."""
    rooms = rooms_at(code, rule, at, token)
    return rooms[0] != rooms[1]


def any_breaks(code, rule, at, tokens):
    """Tell whether one of the tokens, or the new handle of an `open`, breaks the rule at the row."""
    return any([breaks_at(code, rule, at, token) for token in tokens + [None]])


def any_moves(code, rule, at, tokens):
    """Tell whether the room of one of the tokens, or of the new handle of an `open`, stays not as it was at the row."""
    return any([moves_at(code, rule, at, token) for token in tokens + [None]])


def rows_behind(code, at):
    """Tell the numbers of the rows that may come behind the row, rising, each once."""
    row = code[at]
    if row[0] == "end":
        return []
    if row[0] == "jump":
        return [row[2]]
    if row[0] == "test":
        return sorted(set([at + 1, row[3]]))
    return [at + 1]
