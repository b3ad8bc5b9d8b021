"""Rules that watch the rows of handles and of ties, deed by deed."""

from usewarden.rules import next_room


def text_in_row(handles, handle, word):
    """Tell how a deed of the handle stands in the row of the handles, one or two tied ones."""
    if len(handles) == 1:
        return word
    side = handles.index(handle) + 1
    return f"{side}.{word}"


def row_of(entries, handles):
    """Tell the row of the handles, one or two tied ones, in the entries of a log."""
    deeds = [entry for entry in entries if len(entry) == 4]
    return [text_in_row(handles, deed[1], deed[2]) for deed in deeds if deed[1] in handles]


class Watch:
    """A rule under its name, and where the rows of all handles, or of all ties, led in it so far.

    A row is known by its handles, a tuple of one or of two tied ones, and by its start: how many entries of the log
    stand ahead of it. A handle's row starts at 0, a tie's row just behind the tie.
    """

    def __init__(self, name, rule):
        self.name = name
        self.rule = rule
        # By the handles: for each room to which rows of theirs led, the start of the earliest of these rows.
        self.starts = {}
        # By a handle: the tied handles with that one among them.
        self.ties = {}

    def begin_tie(self, one, other, start):
        """Begin the row of a tie, where the rule is of two sides."""
        if self.rule[0] == 1:
            return
        tied = (one, other)
        if tied not in self.starts:
            self.starts[tied] = {}
            self.ties.setdefault(one, []).append(tied)
            self.ties.setdefault(other, []).append(tied)
        # Rows of the same handles in one room go on alike: so the earliest stands for all of them, however many.
        self.starts[tied].setdefault(0, start)

    def rows_with(self, handle):
        """Tell the handles of the rows in which deeds of the handle stand."""
        return [(handle,)] if self.rule[0] == 1 else self.ties.get(handle, [])

    def starts_behind(self, handles, text):
        """Tell the starts of the rows of the handles by the rooms to which the text leads, None where it breaks."""
        behind = {}
        # A handle that has done no deed is in room 0.
        for room, start in self.starts.get(handles, {0: 0}).items():
            way = next_room(self.rule, room, text)
            behind[way] = min(start, behind.get(way, start))
        return behind

    def led_by(self, handle, word):
        """Tell, by their handles, the starts of the rows behind a deed of the handle that hasn't been done yet."""
        led = {}
        for handles in self.rows_with(handle):
            led[handles] = self.starts_behind(handles, text_in_row(handles, handle, word))
        return led

    def go_on(self, led):
        """Let the rows go on by a deed that breaks nothing, as it was told of it."""
        self.starts.update(led)


def earliest_broken(led):
    """Tell the start and the handles of the earliest of the rows led to None, or None where there is no such row."""
    return min([(starts[None], handles) for handles, starts in led.items() if None in starts], default=None)


def watches_of(rules):
    """Tell a watch for each rule of the list, of a log without entries."""
    return [Watch(named[0], named[1]) for named in rules]


def all_begin_tie(watches, one, other, start):
    """Let all watches begin the row of a tie."""
    for watch in watches:
        watch.begin_tie(one, other, start)


def broken_or_gone_on(watches, handle, word):
    """Tell the name of the first rule that a deed of the handle would break, and the start and handles of its row.

    Where there is none let all watches go on by the deed, and tell None.
    """
    ways = [(watch, watch.led_by(handle, word)) for watch in watches]
    for watch, led in ways:
        broken = earliest_broken(led)
        if broken is not None:
            return (watch.name, broken[0], broken[1])
    for watch, led in ways:
        watch.go_on(led)
    return None
