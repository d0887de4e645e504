"""The refusals: one class for each, all of them beneath JudgeError."""


class JudgeError(ValueError):
    """Any refusal."""


class NoRow(JudgeError):
    """A world's row that is not right, by its name."""

    def __init__(self, name):
        JudgeError.__init__(self, f"the row {name} is not right")
        self.name = name


class NoSaying(JudgeError):
    """A saying that does not fit, by the place of the part at fault."""

    def __init__(self, place):
        JudgeError.__init__(self, f"the part at {place} does not fit")
        self.place = place


class TooMany(JudgeError):
    """More rooms than are let, by the place of the part where they come up."""

    def __init__(self, place):
        JudgeError.__init__(self, f"too many rooms come up at {place}")
        self.place = place


class NoText(JudgeError):
    """A text that is none of those that are read."""

    def __init__(self):
        # No words are kept: an error that is copied is made again from its words, and this one takes none.
        JudgeError.__init__(self)
