"""All errors that the package raises by name."""


class NoGroup(LookupError):
    """No group of the BOOK has this name."""

    def __init__(self, group):
        self.group = group


class NoPerson(LookupError):
    """Nobody in the BOOK has this name."""

    def __init__(self, person):
        self.person = person


class NoNumber(LookupError):
    """Nothing has this number."""

    def __init__(self, number):
        self.number = number


class NoTerm(LookupError):
    """No TERM stands at this place."""

    def __init__(self, place):
        self.place = place


class NothingDone(LookupError):
    """There is no deed that can be undone."""


class Known(ValueError):
    """There is a group of this name already."""

    def __init__(self, name):
        self.name = name


class CanNot(ValueError):
    """There is no such number at all."""


class Unfit(ValueError):
    """What was handed in does not fit the rest."""


class BadText(ValueError):
    """Nothing has this text."""


class BadLine(ValueError):
    """The line with this number is no request."""

    def __init__(self, number):
        self.number = number
