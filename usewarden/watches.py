"""Rules that watch the rows of handles and of ties, deed by deed."""


def sided_text(side, word):
    """Tell how a deed stands in a row: side is that of a tie's handle, 0 in the row of a handle by itself."""
    return word if side == 0 else f"{side}.{word}"


def text_in_row(handles, handle, word):
    """Tell how a deed of the handle stands in the row of the handles, one or two tied ones."""
    return sided_text(0 if len(handles) == 1 else handles.index(handle) + 1, word)


def row_of(entries, handles):
    """Tell the row of the handles, one or two tied ones, in the entries of a log."""
    deeds = [entry for entry in entries if len(entry) == 4]
    return [text_in_row(handles, deed[1], deed[2]) for deed in deeds if deed[1] in handles]


def starts_behind(starts, ways):
    """Tell the starts of rows by the rooms to which a word leads, None where it breaks, of those by their rooms."""
    behind = {}
    for room, start in starts.items():
        way = ways[room]
        if start <= behind.get(way, start):
            behind[way] = start
    return behind


class Watch:
    """A rule under its name, and where the rows of all handles, or of all ties, led in it so far.

    A row is known by its handles, a tuple of one or of two tied ones, and by its start: how many entries of the log
    stand ahead of it. A handle's row starts at 0, a tie's row just behind the tie.
    """

    def __init__(self, name, rule):
        self.name = name
        self.sides = (0,) if rule[0] == 1 else (1, 2)
        # By a word: where it leads from each room.
        self.ways = {}
        for place, word in enumerate(rule[1]):
            self.ways[word] = [room[place] for room in rule[2]]
        # By the handles: for each room to which rows of theirs led, the start of the earliest of these rows.
        self.starts = {}
        # By a handle and its side: the tied handles with that one on that side.
        self.ties = {}

    def begin_tie(self, one, other, start):
        """Begin the row of a tie, where the rule is of two sides."""
        if self.sides == (0,):
            return
        tied = (one, other)
        if tied not in self.starts:
            self.starts[tied] = {}
            self.ties.setdefault((one, 1), []).append(tied)
            self.ties.setdefault((other, 2), []).append(tied)
        # Rows of the same handles in one room go on alike: so the earliest stands for all of them, however many.
        self.starts[tied].setdefault(0, start)

    def rows_with(self, handle, side):
        """Tell the handles of the rows in which deeds of the handle stand on that side."""
        return [(handle,)] if side == 0 else self.ties.get((handle, side), [])

    def led_by(self, handle, word):
        """Tell, by their handles, the starts of the rows behind a deed of the handle that hasn't been done yet.

        Rows in which the rule has no word for the deed stay where they are, and aren't told.
        """
        led = {}
        for side in self.sides:
            ways = self.ways.get(sided_text(side, word))
            if ways is not None:
                for handles in self.rows_with(handle, side):
                    # A handle that has done no deed is in room 0.
                    led[handles] = starts_behind(self.starts.get(handles, {0: 0}), ways)
        return led

    def go_on(self, led):
        """Let the rows go on by a deed that breaks nothing, as it was told of it."""
        self.starts.update(led)


def earliest_broken(led):
    """Tell the start and the handles of the earliest of the rows led to None, or None where there is no such row."""
    return min([(starts[None], handles) for handles, starts in led.items() if None in starts], default=None)


def watches_of(rules):
    """Tell a watch for each rule of the list, of a log without entries."""
    return [Watch(named[0], named[1]) for named in rules]


def all_begin_tie(watches, one, other, start):
    """Let all watches begin the row of a tie."""
    for watch in watches:
        watch.begin_tie(one, other, start)


def broken_or_gone_on(watches, handle, word):
    """Tell the name of the first rule that a deed of the handle would break, and the start and handles of its row.

    Where there is none let all watches go on by the deed, and tell None.
    """
    ways = [(watch, watch.led_by(handle, word)) for watch in watches]
    for watch, led in ways:
        broken = earliest_broken(led)
        if broken is not None:
            return (watch.name, broken[0], broken[1])
    for watch, led in ways:
        watch.go_on(led)
    return None
