"""The refusals of the program."""


class UseError(ValueError):
    """Any refusal."""


class NoRule(UseError):
    """What was handed in is no rule."""


class NoText(UseError):
    """What was handed in is not the text of anything that can be read here."""


class NoFit(UseError):
    """Rules of unlike sides don't go together."""


class TooGreat(UseError):
    """What would come has too many rooms or words."""


class Breach(UseError):
    """A deed would break a rule, and the run was stopped ahead of it."""

    def __init__(self, rule, line, handles, row, log):
        UseError.__init__(self, f"rule {rule} would be broken at line {line}")
        self.rule = rule
        self.line = line
        # Copies, for whoever takes the refusal owns its lists, and the run that raised it may go on with its own.
        self.handles = list(handles)
        self.row = list(row)
        self.log = list(log)
