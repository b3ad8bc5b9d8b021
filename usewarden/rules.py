"""What a word, a rule and a row are, and where a row leads in a rule."""

from usewarden.errors import NoRule

LETTERS = "abcdefghijklmnopqrstuvwxyz"
MOST_LETTERS = 8
MOST_WORDS = 16
MOST_ROOMS = 60


def is_whole(thing):
    """Tell whether the thing is a whole number."""
    # True and False are ints to Python, but no whole numbers here.
    return isinstance(thing, int) and not isinstance(thing, bool)


def is_word(thing):
    """Tell whether the thing is a word."""
    if not isinstance(thing, str) or not 1 <= len(thing) <= MOST_LETTERS:
        return False
    return all([sign in LETTERS for sign in thing])


def is_sided_word(thing):
    """Tell whether the thing is a word with a side ahead, as rules of two sides have them."""
    return isinstance(thing, str) and thing[:2] in ("1.", "2.") and is_word(thing[2:])


def is_rising(texts):
    """Tell whether each of the texts is more than the one ahead of it."""
    return all([texts[at - 1] < texts[at] for at in range(1, len(texts))])


def are_words(thing, sides):
    """Tell whether the thing can be the words of a rule of so many sides."""
    if not isinstance(thing, list) or len(thing) > MOST_WORDS:
        return False
    for word in thing:
        if not (is_word(word) if sides == 1 else is_sided_word(word)):
            return False
    # Asked last, for only texts can be compared.
    return is_rising(thing)


def is_way(thing, count):
    """Tell whether the thing can stand for a word in a room, where there are so many rooms."""
    return thing is None or (is_whole(thing) and 0 <= thing < count)


def is_room(thing, width, count):
    """Tell whether the thing can be a room for so many words, where there are so many rooms."""
    if not isinstance(thing, list) or len(thing) != width:
        return False
    return all([is_way(way, count) for way in thing])


def are_rooms(thing, width):
    """Tell whether the thing can be the rooms of a rule of so many words."""
    if not isinstance(thing, list) or not 1 <= len(thing) <= MOST_ROOMS:
        return False
    return all([is_room(room, width, len(thing)) for room in thing])


def is_rule(thing):
    """Tell whether the thing is a rule."""
    if not isinstance(thing, tuple) or len(thing) != 3:
        return False
    sides = thing[0]
    if not is_whole(sides) or sides not in (1, 2):
        return False
    return are_words(thing[1], sides) and are_rooms(thing[2], len(thing[1]))


def copy_of(rule):
    """Tell an equal rule with lists of its own."""
    return (rule[0], list(rule[1]), [list(room) for room in rule[2]])


def copied_rule(thing):
    """Tell an equal rule with lists of its own; refuse what is no rule."""
    if not is_rule(thing):
        raise NoRule("this is no rule")
    return copy_of(thing)


def next_room(rule, room, text):
    """Tell the room to which the text leads from the room, or None where it breaks the rule there."""
    words = rule[1]
    if text not in words:
        return room
    return rule[2][room][words.index(text)]


def room_from(rule, room, row):
    """Tell the room to which the row leads from the room, or None where it breaks the rule."""
    for text in row:
        room = next_room(rule, room, text)
        if room is None:
            return None
    return room


def room_after(rule, row):
    """Tell the room to which the row leads from room 0, or None where it breaks the rule."""
    return room_from(rule, 0, row)
