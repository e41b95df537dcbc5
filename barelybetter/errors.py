"""The errors of the package.

Each error keeps just what its constructor was given, and makes no text of it:
what it was given may be any value.
"""


class BarelyError(ValueError):
    """What all errors of the package have in common."""


class Wrong(BarelyError):
    """The argument at a place is not as described."""

    def __init__(self, place):
        self.place = place


class NoThing(BarelyError):
    """Something is named that is none of the things."""

    def __init__(self, thing):
        self.thing = thing


class Clash(BarelyError):
    """Two answers about a pair contradict each other."""

    def __init__(self, pair):
        self.pair = pair


class NoPair(BarelyError):
    """Something is asked for that is no pair of the things."""

    def __init__(self, pair):
        self.pair = pair


class NoAnswer(BarelyError):
    """Something is to go that is none of the answers."""

    def __init__(self, answer):
        self.answer = answer


class Ring(BarelyError):
    """Answers lead round, so no worths fit them."""

    def __init__(self, ring):
        self.ring = ring


class Unlike(BarelyError):
    """Two objects that have to be about the same things are not."""


class NoTable(BarelyError):
    """Some betters are those of no worths."""

    def __init__(self, pattern):
        self.pattern = pattern


class Unfit(BarelyError):
    """A table does not fit the answers."""


class TooMany(BarelyError):
    """More tables fit than were asked for at most."""

    def __init__(self, most):
        self.most = most


class NoNumber(BarelyError):
    """Something is no index of a list of tables."""

    def __init__(self, index):
        self.index = index


class NoRatio(BarelyError):
    """The steps of two judges cannot stand so to each other."""

    def __init__(self, barred):
        self.barred = barred


class NoWorths(BarelyError):
    """No worths fit the menus."""


class NoText(BarelyError):
    """Something is not the text of what is to be read."""


class NoDeed(BarelyError):
    """Something has not the form of a deed."""


class Full(BarelyError):
    """As many deeds stand as a log can keep."""

    def __init__(self, limit):
        self.limit = limit


class Refused(BarelyError):
    """A deed cannot be done to the things as they are."""

    def __init__(self, deed):
        self.deed = deed


class Nothing(BarelyError):
    """There is nothing to undo, or to do again."""


class NoEntry(BarelyError):
    """So many deeds never stood."""

    def __init__(self, many):
        self.many = many


class NoCommand(BarelyError):
    """Something is no line that the desk knows."""
