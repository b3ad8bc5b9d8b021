"""What several tests share."""

import copy
import itertools

from usewarden.codes import code_of, turned_code
from usewarden.errors import Breach
from usewarden.programs import is_program, lines_of
from usewarden.rules import room_after


class Sour:
    """A thing that can't be compared, counted, walked or asked for its truth."""

    def sour(self, *others):
        raise RuntimeError("this was touched")

    __eq__ = __ne__ = __lt__ = __le__ = __gt__ = __ge__ = sour
    __hash__ = __len__ = __bool__ = __iter__ = __getitem__ = __contains__ = __int__ = __index__ = sour


def odd_things():
    """Things that are no words, no rules and no texts of rules."""
    loop = []
    loop.append(loop)
    return [
        None, True, False, 0, 1, -1, 10 ** 50, 1.0, 1j, float("nan"), b"", b"open", b"1: ", bytearray(b"a"),
        [], (), {}, set(), frozenset(), loop, (loop, loop, loop), [None], (None,), (None, None, None), range(3),
        object(), object, int, str, len, lambda: None, iter("a"), Exception("a"), NotImplemented, ..., Sour(),
        ["a"], ("a",), {"a": 1}, {"a"}, [[]], [1, [], [[]]], ("1", [], [[]]), (Sour(), Sour(), Sour()),
    ]


def rows_upto(texts, length):
    """All rows of the texts, none longer than length, the lesser ones first."""
    rows = []
    for size in range(length + 1):
        rows.extend(list(row) for row in itertools.product(sorted(texts), repeat=size))
    return rows


def rules_of(sides, words, count):
    """All rules with these words and so many rooms."""
    ways = [None, *range(count)]
    rooms = [list(room) for room in itertools.product(ways, repeat=len(words))]
    for chosen in itertools.product(rooms, repeat=count):
        yield (sides, list(words), [list(room) for room in chosen])


def random_rule(chance, sides, words, count):
    """A rule with these words and so many rooms, ways by chance."""
    ways = [None, *range(count)]
    return (sides, list(words), [[chance.choice(ways) for word in words] for room in range(count)])


def lists_within(thing):
    """All lists within the thing, itself too."""
    found = [thing] if isinstance(thing, list) else []
    if isinstance(thing, (list, tuple)):
        for part in thing:
            found.extend(lists_within(part))
    return found


def are_apart(*things):
    """Whether no list stands in two places of the things."""
    found = [id(part) for thing in things for part in lists_within(thing)]
    return len(found) == len(set(found))


def spoil(thing):
    """Change every list within the thing."""
    for part in lists_within(thing):
        part.append("spoiled")


def check_own(case, tell, *handed):
    """Whether telling changes nothing handed in, all lists told are new, and neither hangs on the other later."""
    # A copy is handed in, for it is spoiled in the end.
    handed = copy.deepcopy(handed)
    before = copy.deepcopy(handed)
    told = tell(*handed)
    again = copy.deepcopy(told)
    case.assertEqual(handed, before)
    case.assertTrue(are_apart(told, tell(*handed)))
    spoil(told)
    case.assertEqual(handed, before)
    kept = tell(*handed)
    case.assertEqual(kept, again)
    spoil(handed)
    case.assertEqual(kept, again)


def door():
    """The document's own example."""
    return (1, ["close", "open", "read"], [[None, 1, None], [0, None, 1]])


def lease():
    """A rule of two sides: the second may read just after the first opened and till it closed."""
    return (2, ["1.close", "1.open", "2.read"], [[0, 1, None], [0, 1, 1]])


def steps_rule(count, last):
    """A rule of so many rooms in a row, each led to by `go` from the one ahead; the last one has the way told."""
    return (1, ["go"], [[at + 1] for at in range(count - 1)] + [[last]])


SIXTEEN = list("abcdefghijklmnop")
SIXTEEN_MORE = list("klmnopqrstuvwxyz")
SIXTEEN_SIDED = ["1." + letter for letter in "abcdefgh"] + ["2." + letter for letter in "abcdefgh"]


def free(sides):
    """The rule that no row breaks."""
    return (sides, [], [[]])


def barring(sides, *words):
    """The rule that each of these words breaks at once."""
    return (sides, sorted(words), [[None] * len(words)])


def ring_rule(count, turn, stop, where=0):
    """A rule whose rooms `turn` goes through in a ring; `stop` breaks it in just one of them."""
    words = sorted([turn, stop])
    rooms = []
    for at in range(count):
        ways = {turn: (at + 1) % count, stop: None if at == where else at}
        rooms.append([ways[word] for word in words])
    return (1 if "." not in turn else 2, words, rooms)


def sided(rule):
    """The same rule, of one side, as one of two: all is said of the second handle."""
    return (2, ["2." + word for word in rule[1]], [list(room) for room in rule[2]])


def way_by(rule, room, text):
    """Where the text leads from the room; None, where the rule is broken, stays None."""
    if room is None or text not in rule[1]:
        return room
    return rule[2][room][rule[1].index(text)]


def every_kind():
    """A program with every kind of step, and its lines."""
    program = [
        ("open", "a"),
        ("lend", "a", "b", [("do", "read", "b"), ("copy", "c", "b")]),
        ("while", -3, [("if", 0, [("tie", "c", "d")], [("drop", "c")]), ("open", "d")]),
    ]
    lines = [
        "open a", "lend a b", "do read b", "copy c b", "back", "while -3", "if 0", "tie c d", "else", "drop c", "fi", "open d",
        "done",
    ]
    return program, lines


def nested(kind, count):
    """A program of so many blocks of the kind, each within the one ahead, none with another step."""
    steps = []
    for turn in range(count):
        steps = [{
            "lend": ("lend", "x", "y", steps),
            "if": ("if", turn, steps, []),
            "else": ("if", -turn, [], steps),
            "while": ("while", turn, steps),
        }[kind]]
    return steps


def filled(kind, count, steps):
    """The same, a while or a side of an if, with the steps in the innermost block."""
    program = nested(kind, count)
    side = 3 if kind == "else" else 2
    within = program
    for turn in range(count):
        within = within[0][side]
    within.extend(steps)
    return program


def random_steps(chance, names, depth, width):
    """Steps by chance: so many in a list at most, and so deep at most."""
    steps = []
    for turn in range(chance.randrange(width + 1)):
        x, y = chance.choice(names), chance.choice(names)
        n = chance.choice([0, 1, -1, 10, -10, 10 ** 60 - 1, 1 - 10 ** 60, chance.randrange(-99, 99)])
        kinds = ["open", "do", "copy", "drop", "tie"] + ["lend", "if", "while"] * (depth > 0)
        kind = chance.choice(kinds)
        blocks = [random_steps(chance, names, depth - 1, width) for side in range(2)] if depth else []
        steps.append({
            "open": (kind, x), "do": (kind, chance.choice(["open", "do", "back", "end", "z"]), x), "copy": (kind, x, y),
            "drop": (kind, x), "tie": (kind, x, y), "lend": (kind, x, y, *blocks[:1]), "if": (kind, n, *blocks),
            "while": (kind, n, *blocks[:1]),
        }[kind])
    return steps


def bounds_of_lines(lines):
    """Of the lines of a program: how many they are, how many names and lends it has, and in how many others a step stands."""
    names = set()
    around = deepest = 0
    for line in lines:
        texts = line.split(" ")
        if texts[0] in ("back", "fi", "done"):
            around -= 1
        elif texts[0] != "else":
            deepest = max(deepest, around)
        if texts[0] in ("lend", "if", "while"):
            around += 1
        if texts[0] == "do":
            names.add(texts[2])
        elif texts[0] in ("open", "copy", "drop", "tie", "lend"):
            names.update(texts[1:])
    return len(lines), len(names), sum(line.startswith("lend ") for line in lines), deepest


def sixty_lines():
    """A program as great as one may be: sixty lines, four names, three lends, eight steps around one of its steps."""
    deepest = [("open", "c"), ("do", "deep", "c"), ("tie", "a", "c"), ("drop", "c")]
    third = [("lend", "a", "d", [("do", "third", "d"), ("open", "b")])]
    for turn in range(2):
        deepest = [("while", turn, deepest), ("do", "loop", "b")]
    for turn in range(2):
        deepest = [("if", -turn, deepest, [("copy", "d", "b"), ("do", "other", "d")])]
    deepest = [("lend", "a", "b", [("lend", "b", "c", [("do", "second", "c"), *deepest]), ("do", "first", "b")])]
    deepest = [("while", -1, [("if", 1, deepest, third), ("tie", "b", "a")])]
    around = [("open", "a"), *deepest, ("copy", "d", "a"), ("do", "read", "d"), ("open", "b"), ("tie", "a", "b")]
    return around + [("do", "write", "abcd"[turn % 4]) for turn in range(60 - len(lines_of(around)))]


def partners_in(lines):
    """For each line that begins a block the lines that part or close it; for each of those the line that begins it."""
    partners = {}
    begun = []
    for at, line in enumerate(lines):
        kind = line.split(" ")[0]
        if kind in ("lend", "if", "while"):
            begun.append(at)
            partners[at] = []
        elif kind in ("else", "fi", "back", "done"):
            partners[begun[-1]].append(at)
            partners[at] = begun[-1]
            if kind != "else":
                begun.pop()
    return partners


def log_by_lines(lines, inputs):
    """The log of a program, found from its lines alone: line by line, going to and fro between them."""
    partners = partners_in(lines)
    held, lent, log, left = {}, {}, [], list(reversed(inputs))
    at = opened = last = 0
    while at < len(lines):
        texts = lines[at].split(" ")
        kind, following = texts[0], at + 1
        if kind == "open":
            held[texts[1]] = opened
            log.append((at, opened, "open", last))
            opened += 1
        elif kind == "do" and texts[2] in held:
            log.append((at, held[texts[2]], texts[1], last))
        elif kind == "drop" or kind == "copy" and texts[2] not in held:
            held.pop(texts[1], None)
        elif kind == "copy":
            held[texts[1]] = held[texts[2]]
        elif kind == "tie" and {texts[1], texts[2]} <= set(held) and held[texts[1]] != held[texts[2]]:
            log.append((at, held[texts[1]], held[texts[2]]))
        elif kind == "lend":
            lent[at] = held.get(texts[1])
            held.pop(texts[2], None)
            if lent[at] is not None:
                log.append((at, lent[at], "lend", last))
                held[texts[2]] = lent[at]
        elif kind == "back":
            handle = lent.pop(partners[at])
            held.pop(lines[partners[at]].split(" ")[2], None)
            if handle is not None:
                log.append((at, handle, "back", last))
        elif kind in ("if", "while"):
            more = bool(left) and left[-1] > int(texts[1])
            last = left.pop() if left else last
            following = at + 1 if more else partners[at][0] + 1
        elif kind == "else":
            following = partners[partners[at]][1] + 1
        elif kind == "done":
            following = partners[at]
        at = following
    return log + [(len(lines), handle, "end", last) for handle in range(opened)]


def code_by_lines(lines, turned):
    """The code of a program, found from its lines alone: first with marks for the rows that are led to."""
    partners = partners_in(lines)
    names = [name for line in lines if line.split(" ")[0] in ("open", "do", "copy", "drop", "tie", "lend")
             for name in line.split(" ")[2 if line.startswith("do ") else 1:]]
    slots = list(dict.fromkeys(names)) + [at for at, line in enumerate(lines) if line.startswith("lend ")]
    rows, marks = [], {}

    def mark():
        marks[len(marks)] = None
        return len(marks) - 1

    def put(low, high, turned):
        at = low
        while at < high:
            texts = lines[at].split(" ")
            kind, closers = texts[0], partners.get(at, [])
            if kind == "do":
                rows.append(("do", at, slots.index(texts[2]), texts[1]))
            elif kind == "lend":
                x, y, h, back = slots.index(texts[1]), slots.index(texts[2]), slots.index(at), closers[0]
                rows.extend([("copy", at, h, x), ("do", at, h, "lend"), ("copy", at, y, h)])
                put(at + 1, back, turned)
                rows.extend([("do", back, h, "back"), ("drop", back, y), ("drop", back, h)])
            elif kind == "if":
                rest, behind = mark(), mark()
                rows.append(("test", at, int(texts[1]), [rest]))
                put(at + 1, closers[0], turned)
                rows.append(("jump", closers[0], [behind]))
                marks[rest] = len(rows)
                put(closers[0] + 1, closers[1], turned)
                marks[behind] = len(rows)
            elif kind == "while":
                again, behind = mark(), mark()
                if turned:
                    rows.append(("test", at, int(texts[1]), [behind]))
                    put(at + 1, closers[0], True)
                marks[again] = len(rows)
                rows.append(("test", at, int(texts[1]), [behind]))
                put(at + 1, closers[0], False)
                rows.append(("jump", closers[0], [again]))
                marks[behind] = len(rows)
            else:
                rows.append((kind, at, *[slots.index(name) for name in texts[1:]]))
            at = (closers or [at])[-1] + 1

    put(0, len(lines), turned)
    rows.append(("end", len(lines)))
    return [row[:-1] + (marks[row[-1][0]],) if isinstance(row[-1], list) else row for row in rows]


def random_inputs(chance, program, most):
    """Inputs by chance, so many at most: those at the bounds of the program, just by them, and others."""
    bounds = [int(line.split(" ")[1]) for line in lines_of(program) if line.startswith(("if ", "while "))] + [0]
    near = [bound + by for bound in bounds for by in (-1, 0, 1)] + [10 ** 61 - 1, 1 - 10 ** 61]
    return [chance.choice(near) for turn in range(chance.randrange(most + 1))]


def inputs_near(bound):
    """Lists of inputs equal to the bound, one more, far from it, and more than are taken."""
    most = 10 ** 61 - 1
    return [[], [bound], [bound + 1], [bound + 1, bound], [bound + 1] * 2, [most, most], [most, -most], [-most, most],
            [most, bound, most, most]]


def runs_by_chance(chance, count):
    """So many programs by chance, each with three lists of inputs, and the logs that their lines ask for."""
    for turn in range(count):
        program = random_steps(chance, ["a", "b", "c", "d"][:chance.randrange(1, 5)], 3, 4)
        lines = lines_of(program)
        for again in range(3):
            inputs = random_inputs(chance, program, 9)
            yield program, inputs, log_by_lines(lines, inputs)


def rows_in(log, sides):
    """The rows of a log by its words alone: of each handle, or of each tie, its handles and its texts with their entries."""
    if sides == 1:
        handles = sorted({entry[1] for entry in log if len(entry) == 4})
        return [([handle], [(at, entry[2]) for at, entry in enumerate(log) if len(entry) == 4 and entry[1] == handle])
                for handle in handles]
    rows = []
    for place, (line, *tied) in enumerate(log):
        if len(tied) == 2:
            deeds = [(at, entry) for at, entry in enumerate(log) if at > place and len(entry) == 4 and entry[1] in tied]
            rows.append((tied, [(at, f"{tied.index(entry[1]) + 1}.{entry[2]}") for at, entry in deeds]))
    return rows


def breach_by_rows(rules, log):
    """The breach of a log, found from all its rows at once: entry, name, handles and row, or None."""
    found = []
    for place, (name, rule) in enumerate(rules):
        for turn, (handles, texts) in enumerate(rows_in(log, rule[0])):
            for count in range(1, len(texts) + 1):
                row = [text for at, text in texts[:count]]
                if room_after(rule, row) is None:
                    found.append((texts[count - 1][0], place, turn, name, handles, row))
                    break
    return min(found)[:1] + min(found)[3:] if found else None


def random_log(chance, handles, words, count):
    """A log of so many entries by chance, be it one of a run or not."""
    log = []
    for turn in range(count):
        if handles > 1 and chance.random() < 0.3:
            log.append((turn, *chance.sample(range(handles), 2)))
        else:
            log.append((turn, chance.randrange(handles), chance.choice(words), chance.randrange(-9, 9)))
    return log


def deeds(*texts):
    """A log: each text a handle and a word, or two handles that are tied."""
    log = []
    for at, text in enumerate(texts):
        one, other = text.split(" ")
        log.append((at, int(one), int(other)) if other.isdigit() else (at, int(one), other, 0))
    return log


def rarely_broken(chance, sides, words, count):
    """A rule by chance that fewer texts break, so that rows get longer: with some of the words, on sides if it has two."""
    texts = words if sides == 1 else [f"{side}.{word}" for side in (1, 2) for word in words]
    chosen = sorted(chance.sample(texts, chance.randrange(1, min(len(texts), 16) + 1)))
    rooms = [[None if chance.random() < 0.12 else chance.randrange(count) for word in chosen] for room in range(count)]
    return (sides, chosen, rooms)


def rules_by_chance(chance, words, most):
    """A list of so many rules at most, of one side and of two."""
    names = ["rule" + name for name in "abcdefgh"[:chance.randrange(most + 1)]]
    return [(name, rarely_broken(chance, chance.choice([1, 2]), words, chance.randrange(1, 5))) for name in names]


def outcome_by_log(breach, log):
    """What a watched run tells, by the breach in the plain run's log: the log, or the fields of the refusal."""
    if breach is None:
        return log
    at, name, handles, row = breach
    return name, log[at][0], handles, row, log[:at]


def fields_of(breach):
    """What a refusal bears."""
    return breach.rule, breach.line, breach.handles, breach.row, breach.log


def told_by(run, *handed):
    """What a run tells: its log, or the fields of its refusal."""
    try:
        return run(*handed)
    except Breach as breach:
        return fields_of(breach)


def told_by_lines(program, rules, inputs):
    """What a watched run must tell: by the program's lines and the rows of its log alone."""
    log = log_by_lines(lines_of(program), inputs)
    return outcome_by_log(breach_by_rows(rules, log), log)


def lines_broken(log, rules):
    """The lines of the entries of a log with which a handle, or a tie, breaks one of the rules, all of as many sides.

    It kept all of them till then.
    """
    found = set()
    for handles, texts in rows_in(log, rules[0][0]):
        for count in range(1, len(texts) + 1):
            row = [text for at, text in texts[:count]]
            if any(room_after(rule, row) is None for rule in rules):
                found.add(log[texts[count - 1][0]][0])
                break
    return found


def slots_in(held):
    """The slots of a sum of slots."""
    return {slot for slot in range(held.bit_length()) if held // 2 ** slot % 2}


def sum_of(slots):
    """The sum of slots."""
    return sum(2 ** slot for slot in slots)


def all_tokens(sides, slots, rooms):
    """All tokens of so many slots, for a rule of so many sides and rooms."""
    helds = range(2 ** slots)
    if sides == 1:
        return [(held, room) for held in helds for room in range(rooms)]
    two = [(one, other, older) for one in helds for other in helds if not slots_in(one) & slots_in(other) for older in (1, 2)]
    return [(held,) for held in helds] + two + [(*token, room) for token in two for room in range(rooms)]


def token_behind(row, rule, token):
    """The token behind a row, or None, as the document words it."""
    if row[0] == "end":
        return None
    parts = list(token)
    for place in range(1 if len(token) < 3 else 2):
        slots = slots_in(token[place])
        if row[0] == "copy" and row[3] in slots:
            slots.add(row[2])
        elif row[0] in ("open", "copy", "drop"):
            slots.discard(row[2])
        elif row[0] == "do" and row[2] in slots and len(token) in (2, 4):
            parts[-1] = way_by(rule, token[-1], row[3] if len(token) == 2 else f"{place + 1}.{row[3]}")
        parts[place] = sum_of(slots)
    return None if None in parts else tuple(parts)


def tokens_begun(row, rule, tokens):
    """The set of the tokens that begin at a row, of those told and by itself, as the document words it."""
    if row[0] == "open" and rule[0] == 1:
        room = way_by(rule, 0, "open")
        return set() if room is None else {(2 ** row[2], room)}
    begun = set()
    if row[0] == "open":
        begun.add((2 ** row[2],))
        for held in [sum_of(slots_in(token[0]) - {row[2]}) for token in tokens if len(token) == 1]:
            begun.update([(held, 2 ** row[2], 1), (2 ** row[2], held, 2)])
    if row[0] == "tie":
        begun.update((*token, 0) for token in tokens
                     if len(token) == 3 and row[2] in slots_in(token[0]) and row[3] in slots_in(token[1]))
    return begun


def numbers_behind(code, at):
    """The numbers of the rows that may come behind a row."""
    row = code[at]
    return {"end": [], "jump": [row[-1]], "test": [at + 1, row[-1]]}.get(row[0], [at + 1])


def closed_by_words(code, rule, paper):
    """Whether a paper is closed, as the document words it."""
    for at, row in enumerate(code):
        asked = tokens_begun(row, rule, paper[at]) | {token_behind(row, rule, token) for token in paper[at]}
        for place in numbers_behind(code, at):
            if not asked - {None} <= set(paper[place]):
                return False
    return True


def tokens_met(code, rule, inputs):
    """For each row of a code the set of the tokens with which a plain run with the inputs comes there, found by running it."""
    return met_and_broken(code, rule, inputs)[0]


def rows_broken(code, rule, inputs):
    """The numbers of the rows at which a handle or a tie breaks the rule that it kept till then, found by running the code."""
    return met_and_broken(code, rule, inputs)[1]


def met_and_broken(code, rule, inputs):
    """What the run of a code meets: for each row the set of the tokens that come there, and the set of the rows that break."""
    met = [set() for row in code]
    broken = set()
    slots, rooms, ties, left, at = {}, [], [], list(reversed(inputs)), 0

    def deed(handle, word):
        ahead = [rooms[handle]] if rule[0] == 1 else [room for one, other, room in ties]
        rooms[handle] = way_by(rule, rooms[handle], word)
        ties[:] = [(one, other, way_by(rule, room, f"{1 if one == handle else 2}.{word}") if handle in (one, other) else room)
                   for one, other, room in ties]
        behind = [rooms[handle]] if rule[0] == 1 else [room for one, other, room in ties]
        if ahead.count(None) < behind.count(None):
            broken.add(at)

    while True:
        row = code[at]
        helds = [sum_of(slot for slot in slots if slots[slot] == handle) for handle in range(len(rooms))]
        if rule[0] == 1:
            met[at].update((held, room) for held, room in zip(helds, rooms) if room is not None)
        else:
            met[at].update((held,) for held in helds)
            met[at].update((helds[one], helds[other], 1 if one < other else 2)
                           for one, other in itertools.permutations(range(len(rooms)), 2))
            met[at].update((helds[one], helds[other], 1 if one < other else 2, room)
                           for one, other, room in ties if room is not None)
        following = at + 1
        if row[0] == "end":
            for handle in range(len(rooms)):
                deed(handle, "end")
            return met, broken
        if row[0] == "open":
            slots[row[2]] = len(rooms)
            rooms.append(0)
            deed(slots[row[2]], "open")
        elif row[0] == "do" and row[2] in slots:
            deed(slots[row[2]], row[3])
        elif row[0] == "copy" and row[3] in slots:
            slots[row[2]] = slots[row[3]]
        elif row[0] in ("copy", "drop"):
            slots.pop(row[2], None)
        elif row[0] == "tie" and {row[2], row[3]} <= set(slots) and slots[row[2]] != slots[row[3]]:
            ties.append((slots[row[2]], slots[row[3]], 0))
        elif row[0] == "jump":
            following = row[2]
        elif row[0] == "test":
            following = at + 1 if left and left.pop() > row[2] else row[3]
        at = following


def all_codes(program):
    """The code and the turned code of a program."""
    return [code_of(program), turned_code(program)]


def with_bound_nought(steps):
    """The steps with all bounds 0."""
    return [tuple(with_bound_nought(part) if isinstance(part, list) else 0 if isinstance(part, int) else part for part in step)
            for step in steps]


def least_by_turns(code, rule, begun=()):
    """The least closed paper that has the tokens begun: all rows gone through until nothing comes any more."""
    paper = [set() for row in code]
    for at, token in begun:
        paper[at].add(token)
    grows = True
    while grows:
        grows = False
        for at, row in enumerate(code):
            made = (tokens_begun(row, rule, paper[at]) | {token_behind(row, rule, token) for token in paper[at]}) - {None}
            for place in numbers_behind(code, at):
                grows = grows or not made <= paper[place]
                paper[place] |= made
    return [sorted(tokens) for tokens in paper]


def slots_of_code(code):
    """How many slots the rows of a code have."""
    named = [slot for row in code if row[0] not in ("test", "jump", "end") for slot in row[2:] if isinstance(slot, int)]
    return 1 + max(named, default=-1)


def rooms_by_words(row, rule, token):
    """The rooms of a token ahead of a row and behind it, None where it breaks, as the document words it; equal without a room.

    The token None is the new handle.
    """
    if token is None:
        return 0, way_by(rule, 0, "open") if row[0] == "open" and rule[0] == 1 else 0
    room = token[-1] if len(token) in (2, 4) else 0
    texts = []
    if row[0] == "do" and len(token) == 2:
        texts = [row[3]] * (row[2] in slots_in(token[0]))
    elif row[0] == "do" and len(token) == 4:
        texts = [f"{side}.{row[3]}" for side in (1, 2) if row[2] in slots_in(token[side - 1])]
    elif row[0] == "end" and len(token) == 2:
        texts = ["end"]
    elif row[0] == "end" and len(token) == 4:
        texts = [f"{side}.end" for side in (token[2], 3 - token[2])]
    behind = room
    for text in texts:
        behind = way_by(rule, behind, text)
    return room, behind


def rows_that_break(code, rule, paper):
    """The numbers of the rows where a token of the paper, or the new handle, breaks the rule."""
    return [at for at, row in enumerate(code)
            if any(rooms_by_words(row, rule, token)[1] is None for token in [None, *paper[at]])]


def rows_that_move(code, rule, paper):
    """The numbers of the rows, but that of end, where a token of the paper, or the new handle, comes to another room."""
    return [at for at, row in enumerate(code) if row[0] != "end"
            and any(one != other for one, other in [rooms_by_words(row, rule, token) for token in [None, *paper[at]]])]


def let_by_words(code, rule, paper, column):
    """Whether a paper and a column are let by, as the document words it."""
    breaks = rows_that_break(code, rule, paper)
    moves = rows_that_move(code, rule, paper)
    needless = set(column) <= {"none"} and not breaks
    kept = all(column[at] == "look" for at in breaks) and all(column[at] != "none" for at in moves)
    return closed_by_words(code, rule, paper) and (needless or kept)


def column_by_words(code, rule, paper):
    """The column of a code, a rule and its paper, as the document words it."""
    breaks = rows_that_break(code, rule, paper)
    steps = rows_that_move(code, rule, paper) if breaks else []
    return ["look" if at in breaks else "step" if at in steps else "none" for at in range(len(code))]


def codes_by_chance(chance, count, bounds=True):
    """So many codes of programs by chance, turned or not, each with a rule; with all bounds 0, if told so."""
    for turn in range(count):
        names = ["a", "b", "c", "d"][:chance.randrange(1, 5)]
        x, y = names[0], names[-1]
        program = [("open", x), ("open", y), ("tie", *chance.choice([(x, y), (y, x)])), *random_steps(chance, names, 3, 3)]
        words = ["open", "do", "back", "z", "lend", "end"]
        rule = rarely_broken(chance, chance.choice([1, 2]), words, chance.randrange(1, 6))
        code = all_codes(program if bounds else with_bound_nought(program))[turn % 2]
        if len(code) < 100:
            yield code, rule


def great_codes(chance):
    """Codes and rules at the bounds: no steps, sixty lines, blocks within one another; sixteen words, sixty rooms, none."""
    words = ["deep", "end", "loop", "open", "read", "second", "third", "write", "lend", "back"]
    sixty = {1: steps_rule(60, None), 2: sided(steps_rule(60, None))}
    for code in [*all_codes([]), *all_codes(sixty_lines())]:
        for sides in (1, 2):
            yield code, free(sides)
            yield code, rarely_broken(chance, sides, words, 4)
            yield code, sixty[sides]
    for kind, count in (("if", 7), ("else", 7), ("while", 7), ("lend", 3)):
        around = [("open", "x"), ("open", "y"), ("tie", "x", "y")]
        within = [("do", "go", "y"), ("do", "read", "x"), ("do", "close", "x"), *nested(kind, count)]
        for code in all_codes([*around, ("while", 0, within)]):
            for rule in (door(), lease(), sixty[1], sixty[2], (1, ["back", "lend"], [[None, 1], [0, 2], [1, None]])):
                yield code, rule
    steps = [("if", 0, [("do", "abcdefgh"[place], "ab"[place % 2])], []) for place in range(4)]
    program = [("open", "a"), ("while", 0, [("open", "b"), ("tie", "a", "b"), ("while", 0, steps)])]
    for words, sides in ((SIXTEEN, 1), (SIXTEEN_SIDED, 2)):
        rooms = [[None if chance.random() < 0.02 else chance.randrange(60) for word in words] for room in range(60)]
        yield code_of(program), (sides, list(words), rooms)


def ruled_programs(chance, count, most):
    """So many programs by chance, in which handles are tied ahead, each with a list of so many rules at most."""
    made = 0
    while made < count:
        names = ["a", "b", "c", "d"][:chance.randrange(1, 5)]
        x, y = names[0], names[-1]
        program = [("open", x), ("open", y), ("tie", *chance.choice([(x, y), (y, x)])), *random_steps(chance, names, 3, 4)]
        if is_program(program):
            made += 1
            yield program, rules_by_chance(chance, ["open", "do", "back", "z", "lend", "end"], most)
