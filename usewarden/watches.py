"""Rules that watch the rows of handles and of ties, deed by deed."""


def sided_text(side, word):
    """Tell how a deed stands in a row: side is that of a tie's handle, 0 in the row of a handle by itself."""
    return word if side == 0 else f"{side}.{word}"


def text_in_row(handles, handle, word):
    """Tell how a deed of the handle stands in the row of the handles, one or two tied ones."""
    return sided_text(0 if len(handles) == 1 else handles.index(handle) + 1, word)


def row_of(entries, handles):
    """Tell the row of the handles, one or two tied ones, in the entries of a log."""
    deeds = [entry for entry in entries if len(entry) == 4]
    return [text_in_row(handles, deed[1], deed[2]) for deed in deeds if deed[1] in handles]


def starts_behind(starts, ways):
    """Tell the starts of rows by the rooms to which a word that breaks none leads, of those by their rooms."""
    behind = {}
    for room, start in starts.items():
        way = ways[room]
        if start <= behind.get(way, start):
            behind[way] = start
    return behind


class Watch:
    """A rule, and where the rows of all handles, or of all ties, led in it so far.

    A row is known by its handles, a tuple of one or of two tied ones, and by its start: how many entries of the log
    stand ahead of it. A handle's row starts at 0, a tie's row just behind the tie.

    The rule may be several ones laid together: so the blames tell, for each room and each word, the place and the name
    of the one that is broken there. The column tells what is done at each row of a code; with None all is looked at.
    """

    def __init__(self, rule, blames, column):
        self.sides = (0,) if rule[0] == 1 else (1, 2)
        self.column = column
        # By a word: where it leads from each room, and what is to blame where it leads nowhere.
        self.ways = {}
        self.blames = {}
        for place, word in enumerate(rule[1]):
            self.ways[word] = [room[place] for room in rule[2]]
            self.blames[word] = [blamed[place] for blamed in blames]
        # By the handles: for each room to which rows of theirs led, the start of the earliest of these rows.
        self.starts = {}
        # By a handle and its side: the tied handles with that one on that side.
        self.ties = {}

    def mark_at(self, at):
        """Tell what is done at the row of the code: `look`, `step` or `none`."""
        return "look" if self.column is None else self.column[at]

    def begin_tie(self, one, other, start):
        """Begin the row of a tie, where the rule is of two sides."""
        if self.sides == (0,):
            return
        tied = (one, other)
        if tied not in self.starts:
            self.starts[tied] = {}
            self.ties.setdefault((one, 1), []).append(tied)
            self.ties.setdefault((other, 2), []).append(tied)
        # Rows of the same handles in one room go on alike: so the earliest stands for all of them, however many.
        self.starts[tied].setdefault(0, start)

    def handles_with(self, handle, side):
        """Tell the handles of the rows in which deeds of the handle stand on that side."""
        return [(handle,)] if side == 0 else self.ties.get((handle, side), [])

    def rows_with(self, handle, word):
        """Tell the rows that a deed of the handle leads on: the handles of each, and how the deed stands in it.

        Rows in which the rule has no word for the deed stay where they are, and aren't told.
        """
        rows = []
        for side in self.sides:
            text = sided_text(side, word)
            if text in self.ways:
                rows.extend([(handles, text) for handles in self.handles_with(handle, side)])
        return rows

    def starts_of(self, handles):
        """Tell the starts of the rows of the handles, by their rooms."""
        # A handle that has done no deed is in room 0.
        return self.starts.get(handles, {0: 0})

    def broken_by(self, handle, word):
        """Tell the rows that a deed of the handle would break: what is to blame, the start and the handles of each."""
        broken = []
        for handles, text in self.rows_with(handle, word):
            for room, start in self.starts_of(handles).items():
                if self.ways[text][room] is None:
                    broken.append((self.blames[text][room], start, handles))
        return broken

    def go_on(self, handle, word):
        """Let the rows go on by a deed of the handle that breaks nothing."""
        for handles, text in self.rows_with(handle, word):
            self.starts[handles] = starts_behind(self.starts_of(handles), self.ways[text])


def watch_of(place, named, column):
    """Tell a watch for the rule that stands with its name at the place of a list, of a log without entries."""
    rule = named[1]
    blame = (place, named[0])
    return Watch(rule, [[blame for word in rule[1]] for room in rule[2]], column)


def watches_of(rules):
    """Tell a watch for each rule of the list, which looks at every deed."""
    return [watch_of(place, named, None) for place, named in enumerate(rules)]


def all_begin_tie(watches, one, other, start):
    """Let all watches begin the row of a tie."""
    for watch in watches:
        watch.begin_tie(one, other, start)


def broken_or_gone_on(watches, at, handle, word):
    """Tell the name of the first rule that a deed of the handle would break, and the start and handles of its row.

    Where there is none let all watches go on by the deed, and tell None. The watches look, or only go on, or do
    nothing, as they are told for the row of the code at which the deed is.
    """
    broken = []
    for watch in watches:
        if watch.mark_at(at) == "look":
            broken.extend(watch.broken_by(handle, word))
    if len(broken) > 0:
        # The rule that stands first in the list, and the row of it that starts first.
        first = min(broken)
        return (first[0][1], first[1], first[2])
    for watch in watches:
        if watch.mark_at(at) != "none":
            watch.go_on(handle, word)
    return None
