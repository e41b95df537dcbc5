"""Desks: lines of text that say things of a log, and ask it."""

from barelybetter.best import possibly_best, surely_best
from barelybetter.books import Book
from barelybetter.ends import apart, surely, why
from barelybetter.errors import Full, NoCommand, Nothing, Refused, Ring, TooMany, Wrong
from barelybetter.kinds import are_names, is_name, is_pair
from barelybetter.logs import MOST_THINGS, Log
from barelybetter.notation import show_book, show_end, show_names, show_scale, show_walk
from barelybetter.questions import best_question
from barelybetter.scales import plainest
from barelybetter.spaces import Space

TRUTHS = {"better": True, "not": False, "open": None}
WORDS = {True: "better", False: "not", None: "open"}


def _book_text(book):
    """Return the text of a Book."""
    return show_book(book)


def _sure_text(book):
    """Return the text of the Book of all sure answers."""
    return show_book(surely(book))


def _worths_text(book):
    """Return the text of the plainest Scale."""
    return show_scale(plainest(book))


def _best_text(book):
    """Return the texts of the things that are surely among the best, and of those that are possibly so."""
    return show_names(surely_best(book)) + "; " + show_names(possibly_best(book))


def _question_text(book):
    """Return the text of the best question."""
    try:
        pair = best_question(book)
    except TooMany:
        return "many"
    return "none" if pair is None else " ".join(pair)


def _tables_text(book):
    """Return the text of the number of the tables that fit."""
    try:
        return str(len(Space(book)))
    except TooMany:
        return "many"


TEXTS = {"book": _book_text, "sure": _sure_text, "worths": _worths_text, "best": _best_text,
         "question": _question_text, "tables": _tables_text}


class Desk:
    """A log that is led, and asked, by lines of text."""

    def __init__(self, things):
        if not are_names(things) or len(things) > MOST_THINGS:
            raise Wrong(0)
        self._log = Log(Book(things))

    def execute(self, line):
        """Do what a line says, and return a text."""
        words = line.split(" ") if isinstance(line, str) else [""]
        deed = deed_of(words)
        if deed is not None:
            return self._do(deed)
        if words == ["back"] or words == ["again"]:
            return self._go(words[0])
        if len(words) == 1 and words[0] in TEXTS:
            text = TEXTS[words[0]]
            return text(self._log.book)
        if len(words) == 3 and words[0] == "apart" and is_name(words[1]) and is_name(words[2]):
            return self._apart(words[1], words[2])
        if len(words) == 4 and words[0] == "why" and words[2] in ("better", "not") and is_pair((words[1], words[3])):
            return self._why((words[1], words[3], words[2] == "better"))
        raise NoCommand()

    def _do(self, deed):
        """Do a deed, and return the text of what came of it."""
        try:
            self._log.do(deed)
        except (Full, Refused):
            return "refused"
        except Ring as error:
            return "ring " + show_walk(error.ring)
        return "ok"

    def _go(self, word):
        """Go back, or do again what was undone, and return the text of the deed."""
        try:
            deed = self._log.back() if word == "back" else self._log.again()
        except Nothing:
            return "nothing"
        return show_deed(deed)

    def _apart(self, x, y):
        """Return the text of both ends of the difference of two names."""
        book = self._log.book
        if x not in book.things() or y not in book.things():
            return "refused"
        least, greatest = apart(book, x, y)
        return show_end(least) + ", " + show_end(greatest)

    def _why(self, answer):
        """Return the text of the walk that makes an answer about two names sure."""
        book = self._log.book
        if answer[0] not in book.things() or answer[1] not in book.things():
            return "refused"
        walk = why(book, answer)
        return "open" if walk is None else show_walk(walk)


def deed_of(words):
    """Return the deed that the words of a line do, or None."""
    if len(words) == 4 and words[0] == "say" and words[2] in TRUTHS and is_pair((words[1], words[3])):
        return ("say", (words[1], words[3]), TRUTHS[words[2]])
    if len(words) == 2 and words[0] in ("add", "drop") and is_name(words[1]):
        return (words[0], words[1])
    if len(words) == 3 and words[0] == "name" and is_name(words[1]) and is_name(words[2]):
        return (words[0], words[1], words[2])
    return None


def show_deed(deed):
    """Return the line that does a deed."""
    if deed[0] == "say":
        return f"say {deed[1][0]} {WORDS[deed[2]]} {deed[1][1]}"
    return " ".join(deed)
