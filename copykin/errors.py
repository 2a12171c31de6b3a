"""The refusals, each a class of its own under KinError."""


class KinError(ValueError):
    """Any refusal."""


class NoText(KinError):
    """What writes no table; row is the place of the first row that can't stand."""

    def __init__(self, words, row=0):
        KinError.__init__(self, words)
        self.row = row


class Clash(KinError):
    """Two places, and the names of four copies that read all four ways there."""

    def __init__(self, one, other, names):
        KinError.__init__(self, one, other, names)
        self.one = one
        self.other = other
        self.names = names


class Torn(KinError):
    """Two tellings that no node bears together."""

    def __init__(self, one, other):
        KinError.__init__(self, one, other)
        self.one = one
        self.other = other


class NoTable(KinError):
    """What is no table, or none that can be told of."""


class NoName(KinError):
    """What is no name, or the name of no copy."""


class NoPlace(KinError):
    """What is no place, or none of the table."""


class NoReading(KinError):
    """What is no reading, or no readings."""


class NoTelling(KinError):
    """What are no tellings of the table."""


class NoFrame(KinError):
    """What is no frame, or what can't be read along one."""


class Twice(KinError):
    """A name that a copy has already."""


class NoRow(KinError):
    """A row that the desk doesn't know."""
