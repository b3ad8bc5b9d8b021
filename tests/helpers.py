"""What several tests share."""

import itertools


class Sour:
    """A thing that can't be compared, counted, walked or asked for its truth."""

    def sour(self, *others):
        raise RuntimeError("this was touched")

    __eq__ = __ne__ = __lt__ = __le__ = __gt__ = __ge__ = sour
    __hash__ = __len__ = __bool__ = __iter__ = __getitem__ = __contains__ = __int__ = __index__ = sour


def odd_things():
    """Things that are no words, no rules and no texts of rules."""
    loop = []
    loop.append(loop)
    return [
        None, True, False, 0, 1, -1, 10 ** 50, 1.0, 1j, float("nan"), b"", b"open", b"1: ", bytearray(b"a"),
        [], (), {}, set(), frozenset(), loop, (loop, loop, loop), [None], (None,), (None, None, None), range(3),
        object(), object, int, str, len, lambda: None, iter("a"), Exception("a"), NotImplemented, ..., Sour(),
        ["a"], ("a",), {"a": 1}, {"a"}, [[]], [1, [], [[]]], ("1", [], [[]]), (Sour(), Sour(), Sour()),
    ]


def rows_upto(texts, length):
    """All rows of the texts, none longer than length, the lesser ones first."""
    rows = []
    for size in range(length + 1):
        rows.extend(list(row) for row in itertools.product(sorted(texts), repeat=size))
    return rows


def rules_of(sides, words, count):
    """All rules with these words and so many rooms."""
    ways = [None, *range(count)]
    rooms = [list(room) for room in itertools.product(ways, repeat=len(words))]
    for chosen in itertools.product(rooms, repeat=count):
        yield (sides, list(words), [list(room) for room in chosen])


def random_rule(chance, sides, words, count):
    """A rule with these words and so many rooms, ways by chance."""
    ways = [None, *range(count)]
    return (sides, list(words), [[chance.choice(ways) for word in words] for room in range(count)])


def lists_within(thing):
    """All lists within the thing, itself too."""
    found = [thing] if isinstance(thing, list) else []
    if isinstance(thing, (list, tuple)):
        for part in thing:
            found.extend(lists_within(part))
    return found


def are_apart(*things):
    """Whether no list stands in two places of the things."""
    found = [id(part) for thing in things for part in lists_within(thing)]
    return len(found) == len(set(found))


def spoil(thing):
    """Change every list within the thing."""
    for part in lists_within(thing):
        part.append("spoiled")


def door():
    """The document's own example."""
    return (1, ["close", "open", "read"], [[None, 1, None], [0, None, 1]])


def lease():
    """A rule of two sides: the second may read just after the first opened and till it closed."""
    return (2, ["1.close", "1.open", "2.read"], [[0, 1, None], [0, 1, 1]])


def steps_rule(count, last):
    """A rule of so many rooms in a row, each led to by `go` from the one ahead; the last one has the way told."""
    return (1, ["go"], [[at + 1] for at in range(count - 1)] + [[last]])
