"""What several tests share."""

import copy
import itertools


class Sour:
    """A thing that can't be compared, counted, walked or asked for its truth."""

    def sour(self, *others):
        raise RuntimeError("this was touched")

    __eq__ = __ne__ = __lt__ = __le__ = __gt__ = __ge__ = sour
    __hash__ = __len__ = __bool__ = __iter__ = __getitem__ = __contains__ = __int__ = __index__ = sour


def odd_things():
    """Things that are no words, no rules and no texts of rules."""
    loop = []
    loop.append(loop)
    return [
        None, True, False, 0, 1, -1, 10 ** 50, 1.0, 1j, float("nan"), b"", b"open", b"1: ", bytearray(b"a"),
        [], (), {}, set(), frozenset(), loop, (loop, loop, loop), [None], (None,), (None, None, None), range(3),
        object(), object, int, str, len, lambda: None, iter("a"), Exception("a"), NotImplemented, ..., Sour(),
        ["a"], ("a",), {"a": 1}, {"a"}, [[]], [1, [], [[]]], ("1", [], [[]]), (Sour(), Sour(), Sour()),
    ]


def rows_upto(texts, length):
    """All rows of the texts, none longer than length, the lesser ones first."""
    rows = []
    for size in range(length + 1):
        rows.extend(list(row) for row in itertools.product(sorted(texts), repeat=size))
    return rows


def rules_of(sides, words, count):
    """All rules with these words and so many rooms."""
    ways = [None, *range(count)]
    rooms = [list(room) for room in itertools.product(ways, repeat=len(words))]
    for chosen in itertools.product(rooms, repeat=count):
        yield (sides, list(words), [list(room) for room in chosen])


def random_rule(chance, sides, words, count):
    """A rule with these words and so many rooms, ways by chance."""
    ways = [None, *range(count)]
    return (sides, list(words), [[chance.choice(ways) for word in words] for room in range(count)])


def lists_within(thing):
    """All lists within the thing, itself too."""
    found = [thing] if isinstance(thing, list) else []
    if isinstance(thing, (list, tuple)):
        for part in thing:
            found.extend(lists_within(part))
    return found


def are_apart(*things):
    """Whether no list stands in two places of the things."""
    found = [id(part) for thing in things for part in lists_within(thing)]
    return len(found) == len(set(found))


def spoil(thing):
    """Change every list within the thing."""
    for part in lists_within(thing):
        part.append("spoiled")


def check_own(case, tell, *handed):
    """Whether telling changes nothing handed in, all lists told are new, and neither hangs on the other later."""
    before = copy.deepcopy(handed)
    told = tell(*handed)
    again = copy.deepcopy(told)
    case.assertEqual(handed, before)
    case.assertTrue(are_apart(told, tell(*handed)))
    spoil(told)
    case.assertEqual(handed, before)
    kept = tell(*handed)
    case.assertEqual(kept, again)
    spoil(handed)
    case.assertEqual(kept, again)


def door():
    """The document's own example."""
    return (1, ["close", "open", "read"], [[None, 1, None], [0, None, 1]])


def lease():
    """A rule of two sides: the second may read just after the first opened and till it closed."""
    return (2, ["1.close", "1.open", "2.read"], [[0, 1, None], [0, 1, 1]])


def steps_rule(count, last):
    """A rule of so many rooms in a row, each led to by `go` from the one ahead; the last one has the way told."""
    return (1, ["go"], [[at + 1] for at in range(count - 1)] + [[last]])


SIXTEEN = list("abcdefghijklmnop")
SIXTEEN_MORE = list("klmnopqrstuvwxyz")
SIXTEEN_SIDED = ["1." + letter for letter in "abcdefgh"] + ["2." + letter for letter in "abcdefgh"]


def free(sides):
    """The rule that no row breaks."""
    return (sides, [], [[]])


def barring(sides, *words):
    """The rule that each of these words breaks at once."""
    return (sides, sorted(words), [[None] * len(words)])


def ring_rule(count, turn, stop, where=0):
    """A rule whose rooms `turn` goes through in a ring; `stop` breaks it in just one of them."""
    words = sorted([turn, stop])
    rooms = []
    for at in range(count):
        ways = {turn: (at + 1) % count, stop: None if at == where else at}
        rooms.append([ways[word] for word in words])
    return (1 if "." not in turn else 2, words, rooms)


def sided(rule):
    """The same rule, of one side, as one of two: all is said of the second handle."""
    return (2, ["2." + word for word in rule[1]], [list(room) for room in rule[2]])


def way_by(rule, room, text):
    """Where the text leads from the room; None, where the rule is broken, stays None."""
    if room is None or text not in rule[1]:
        return room
    return rule[2][room][rule[1].index(text)]


def every_kind():
    """A program with every kind of step, and its lines."""
    program = [
        ("open", "a"),
        ("lend", "a", "b", [("do", "read", "b"), ("copy", "c", "b")]),
        ("while", -3, [("if", 0, [("tie", "c", "d")], [("drop", "c")]), ("open", "d")]),
    ]
    lines = [
        "open a", "lend a b", "do read b", "copy c b", "back", "while -3", "if 0", "tie c d", "else", "drop c", "fi", "open d",
        "done",
    ]
    return program, lines


def nested(kind, count):
    """A program of so many blocks of the kind, each within the one ahead, none with another step."""
    steps = []
    for turn in range(count):
        steps = [{
            "lend": ("lend", "x", "y", steps),
            "if": ("if", turn, steps, []),
            "else": ("if", -turn, [], steps),
            "while": ("while", turn, steps),
        }[kind]]
    return steps


def random_steps(chance, names, depth, width):
    """Steps by chance: so many in a list at most, and so deep at most."""
    steps = []
    for turn in range(chance.randrange(width + 1)):
        x, y = chance.choice(names), chance.choice(names)
        n = chance.choice([0, 1, -1, 10, -10, 10 ** 60 - 1, 1 - 10 ** 60, chance.randrange(-99, 99)])
        kinds = ["open", "do", "copy", "drop", "tie"] + ["lend", "if", "while"] * (depth > 0)
        kind = chance.choice(kinds)
        blocks = [random_steps(chance, names, depth - 1, width) for side in range(2)] if depth else []
        steps.append({
            "open": (kind, x), "do": (kind, chance.choice(["open", "do", "back", "end", "z"]), x), "copy": (kind, x, y),
            "drop": (kind, x), "tie": (kind, x, y), "lend": (kind, x, y, *blocks[:1]), "if": (kind, n, *blocks),
            "while": (kind, n, *blocks[:1]),
        }[kind])
    return steps


def bounds_of_lines(lines):
    """Of the lines of a program: how many they are, how many names and lends it has, and in how many others a step stands."""
    names = set()
    around = deepest = 0
    for line in lines:
        texts = line.split(" ")
        if texts[0] in ("back", "fi", "done"):
            around -= 1
        elif texts[0] != "else":
            deepest = max(deepest, around)
        if texts[0] in ("lend", "if", "while"):
            around += 1
        if texts[0] == "do":
            names.add(texts[2])
        elif texts[0] in ("open", "copy", "drop", "tie", "lend"):
            names.update(texts[1:])
    return len(lines), len(names), sum(line.startswith("lend ") for line in lines), deepest
