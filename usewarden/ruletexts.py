"""Rules written as texts, and read from them."""

from usewarden.errors import NoText
from usewarden.figures import number_in
from usewarden.rules import is_rule

# No rule has a room of more figures.
MOST_FIGURES = 2


def show_way(word, way):
    """Write a word of a room and where it leads."""
    if way is None:
        return word + "!"
    return f"{word}>{way}"


def show_room(words, room):
    """Write a room."""
    return " ".join([show_way(word, way) for word, way in zip(words, room)])


def show_rule(rule):
    """Write a rule."""
    return str(rule[0]) + ": " + "; ".join([show_room(rule[1], room) for room in rule[2]])


def way_in(text):
    """Tell a word and where it leads, as the text may mean them."""
    if text.endswith("!"):
        return (text[:-1], None)
    parts = text.partition(">")
    return (parts[0], number_in(parts[2], MOST_FIGURES))


def ways_in(text):
    """Tell the words of a room and where they lead, as the text may mean them."""
    if text == "":
        return []
    return [way_in(part) for part in text.split(" ")]


def numbers_of(ways):
    """Tell where the words of a room lead, without the words."""
    return [way[1] for way in ways]


def rule_in(text):
    """Tell what the text may mean as a rule, be it one or not."""
    parts = text.partition(": ")
    rooms = [ways_in(room) for room in parts[2].split("; ")]
    words = [way[0] for way in rooms[0]]
    return (number_in(parts[0], MOST_FIGURES), words, [numbers_of(room) for room in rooms])


def read_rule(text):
    """Tell the rule that is written so; refuse all else."""
    if not isinstance(text, str):
        raise NoText("this is no text")
    rule = rule_in(text)
    # Only what is written of a rule is read to one: so what was taken loosely above is caught here.
    if not is_rule(rule) or show_rule(rule) != text:
        raise NoText("this is not the text of a rule")
    return rule
