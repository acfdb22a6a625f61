"""The refusals of the program."""


class JoinError(ValueError):
    """Any refusal."""


class NoTree(JoinError):
    """A thing is no tree of the heaps at hand."""


class NoPlace(JoinError):
    """There is no such place, or no such stretch of places."""


class NoAsk(JoinError):
    """A line that a desk does not take."""


class NoHeaps(JoinError):
    """No heaps: the place tells where."""

    def __init__(self, place):
        JoinError.__init__(self, f"no heap at place {place}")
        self.place = place


class NoWord(JoinError):
    """No word can be read: the place tells where it would begin."""

    def __init__(self, place):
        JoinError.__init__(self, f"no word at place {place}")
        self.place = place
