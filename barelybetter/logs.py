"""Logs: a possible book, and what was done to it."""

from barelybetter.books import Book
from barelybetter.errors import Full, NoDeed, NoEntry, Nothing, Refused, Wrong
from barelybetter.kinds import is_integer, is_name, is_pair
from barelybetter.rings import refuse_ring

MOST_THINGS = 6


class Log:
    """A possible Book, and the deeds that made it what it is."""

    MOST = 200

    def __init__(self, book):
        if not isinstance(book, Book):
            raise Wrong(0)
        refuse_ring(book)
        self._first = book
        # Both lists have tuples (deed, Book behind it), the latter one those that were undone, the last one first.
        # They are never changed, but others put in their place, so that a trial can put them back.
        self._done = []
        self._undone = []

    @property
    def book(self):
        """The Book now."""
        return self._done[-1][1] if len(self._done) > 0 else self._first

    @property
    def first(self):
        """The Book at the beginning."""
        return self._first

    def do(self, deed):
        """Do a deed."""
        if not is_deed(deed):
            raise NoDeed()
        if len(self._done) >= self.MOST:
            raise Full(self.MOST)
        if not _is_able(self.book, deed):
            raise Refused(deed)
        book = _book_behind(self.book, deed)
        refuse_ring(book)
        self._done = self._done + [(deed, book)]
        self._undone = []

    def deeds(self):
        """Return the deeds that stand."""
        return [deed for deed, _ in self._done]

    def back(self):
        """Undo the last deed that stands, and return it."""
        if len(self._done) == 0:
            raise Nothing()
        self._undone = self._undone + [self._done[-1]]
        self._done = self._done[:-1]
        return self._undone[-1][0]

    def again(self):
        """Do the deed again that was undone last, and return it."""
        if len(self._undone) == 0:
            raise Nothing()
        self._done = self._done + [self._undone[-1]]
        self._undone = self._undone[:-1]
        return self._done[-1][0]

    def past(self, many):
        """Return the Log that stood behind so many deeds."""
        if not is_integer(many) or not 0 <= many <= len(self._done):
            raise NoEntry(many)
        log = Log(self._first)
        log._done = self._done[:many]
        return log

    def copied(self):
        """Return a Log that is equal, also in what can be undone and done again."""
        log = self.past(len(self._done))
        log._undone = self._undone
        return log

    def trial(self, act):
        """Return what act returns of the Log, and put the Log back, also where its error passes."""
        done, undone = self._done, self._undone
        try:
            return act(self)
        finally:
            self._done = done
            self._undone = undone

    def __len__(self):
        return len(self._done)

    def __iter__(self):
        raise TypeError("a Log is not iterated over")

    def __eq__(self, other):
        return isinstance(other, Log) and self._first == other._first and self.deeds() == other.deeds()

    def __getitem__(self, at):
        return self.book[at]

    def __setitem__(self, at, worth):
        self.do(("say", at, worth))


def is_deed(thing):
    """Return whether any value has the form of a deed."""
    if not isinstance(thing, tuple) or len(thing) not in (2, 3):
        return False
    if thing[0] == "say":
        return len(thing) == 3 and is_pair(thing[1]) and (thing[2] is None or isinstance(thing[2], bool))
    if thing[0] == "name":
        return len(thing) == 3 and is_name(thing[1]) and is_name(thing[2])
    return thing[0] in ("add", "drop") and len(thing) == 2 and is_name(thing[1])


def _is_able(book, deed):
    """Return whether a deed can be done to a book, as far as its things go."""
    things = book.things()
    if deed[0] == "say":
        return deed[1][0] in things and deed[1][1] in things
    if deed[0] == "add":
        return deed[1] not in things and len(things) < MOST_THINGS
    if deed[0] == "drop":
        return deed[1] in things
    return deed[1] in things and deed[2] not in things


def _book_behind(book, deed):
    """Return the Book behind a deed that can be done to a book."""
    if deed[0] == "say":
        return _book_with(book, deed[1], deed[2])
    things = book.things()
    if deed[0] == "add":
        return Book(things + [deed[1]], book.answers())
    if deed[0] == "drop":
        return book.only([thing for thing in things if thing != deed[1]])
    return book.renamed({thing: deed[2] if thing == deed[1] else thing for thing in things})


def _book_with(book, pair, truth):
    """Return the Book with this truth about a pair, or with none, whatever its answer about it was."""
    x, y = pair
    rest = book if book[pair] is None else book.out((x, y, book[pair]))
    return rest if truth is None else rest.put((x, y, truth))
