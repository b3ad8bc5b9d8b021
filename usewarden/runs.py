"""What every run keeps: how far the inputs are taken, who holds which handle, and the log."""

from usewarden.errors import Breach
from usewarden.watches import all_begin_tie, broken_or_gone_on, row_of


class Run:
    """A run so far; those who hold handles in it may be names or slots. A plain run has no watches."""

    def __init__(self, inputs, watches):
        self.inputs = inputs
        self.watches = watches
        # The row of the code that is gone through; where steps are done in its place it stays 0.
        self.at = 0
        self.taken = 0
        self.last = 0
        self.opened = 0
        self.held = {}
        self.log = []

    def come_to(self, at):
        """Come to the row of the code with that number."""
        self.at = at

    def takes_more(self, bound):
        """Take the next input, if one is left; tell whether one was taken that is more than the bound."""
        if self.taken == len(self.inputs):
            return False
        self.last = self.inputs[self.taken]
        self.taken = self.taken + 1
        return self.last > bound

    def handle_of(self, holder):
        """Tell the handle that the holder holds, or None."""
        return self.held.get(holder)

    def hold(self, holder, handle):
        """Let the holder hold the handle, or nothing, from now on."""
        self.held[holder] = handle

    def deed(self, line, handle, word):
        """Let the handle, if there is one, do the deed; refuse one that would break a rule of the watches."""
        if handle is None:
            return
        entry = (line, handle, word, self.last)
        broken = broken_or_gone_on(self.watches, self.at, handle, word)
        if broken is not None:
            self.refuse(entry, broken)
        self.log.append(entry)

    def refuse(self, entry, broken):
        """Refuse the deed of the entry by what it would break."""
        name = broken[0]
        start = broken[1]
        handles = broken[2]
        raise Breach(name, entry[0], handles, row_of(self.log[start:] + [entry], handles), self.log)

    def new_handle(self, line, holder):
        """Let a new handle do the deed `open`, and the holder hold it."""
        handle = self.opened
        self.opened = handle + 1
        self.deed(line, handle, "open")
        self.hold(holder, handle)

    def tie(self, line, one, other):
        """Tie both handles, if there are two and they are unlike."""
        if one is not None and other is not None and one != other:
            self.log.append((line, one, other))
            all_begin_tie(self.watches, one, other, len(self.log))

    def end_all(self, line):
        """Let all handles that were opened do the deed `end`."""
        for handle in range(self.opened):
            self.deed(line, handle, "end")
