"""Readers: what has a text. Each of them reads just the texts that notation writes."""

from barelybetter.books import Book
from barelybetter.errors import NoTable, NoText
from barelybetter.kinds import is_answer, is_name, pair_of
from barelybetter.scales import Scale
from barelybetter.tables import Table

LONGEST_NUMBER = 40


def read_answer(text):
    """Return the answer, about any names, that has a text."""
    if not isinstance(text, str):
        raise NoText()
    words = text.split(" ")
    if len(words) != 3 or words[1] not in ("better", "not"):
        raise NoText()
    answer = (words[0], words[2], words[1] == "better")
    if not is_answer(answer):
        raise NoText()
    return answer


def read_walk(text):
    """Return the list of answers, whether they lead on or not, that has a text."""
    if not isinstance(text, str):
        raise NoText()
    if text == "-":
        return []
    return [read_answer(part) for part in text.split(", ")]


def read_book(text):
    """Return the Book, possible or not, that has a text."""
    things, answers = _read_things_and_answers(text)
    return Book(things, answers)


def read_table(text):
    """Return the Table that has a text."""
    things, answers = _read_things_and_answers(text)
    if not all([truth for _, _, truth in answers]):
        raise NoText()
    try:
        return Table(things, [pair_of(answer) for answer in answers])
    except NoTable:
        raise NoText() from None


def read_scale(text):
    """Return the Scale that has a text."""
    rows = [line.split(" ") for line in _lines_in(text)]
    if any([len(row) != 2 for row in rows]) or rows[0][0] != "step":
        raise NoText()
    numbers = [_read_number(row[1]) for row in rows]
    names = [row[0] for row in rows[1:]]
    if numbers[0] < 1 or not all([is_name(name) for name in names]) or not _do_ascend(names):
        raise NoText()
    return Scale({name: number for name, number in zip(names, numbers[1:])}, numbers[0])


def _lines_in(text):
    """Return the lines, at least one, of any value that is a text of lines."""
    if not isinstance(text, str) or not text.endswith("\n"):
        raise NoText()
    return text.split("\n")[:-1]


def _read_things_and_answers(text):
    """Return the things and the answers of a text of a Book: both in their order, no two answers about one pair."""
    lines = _lines_in(text)
    words = lines[0].split(" ")
    things = words[1:]
    if words[0] != "things" or not all([is_name(name) for name in things]) or not _do_ascend(things):
        raise NoText()
    answers = [read_answer(line) for line in lines[1:]]
    known = {thing: True for thing in things}
    if not all([x in known and y in known for x, y, _ in answers]) or not _do_ascend([pair_of(one) for one in answers]):
        raise NoText()
    return (things, answers)


def _do_ascend(rows):
    """Return whether each one of some rows is greater than the one ahead."""
    return all([ahead < behind for ahead, behind in zip(rows, rows[1:])])


def _read_number(text):
    """Return the integer that has a text."""
    digits = text[1:] if text.startswith("-") else text
    if not digits.isascii() or not digits.isdigit() or len(digits) > LONGEST_NUMBER:
        raise NoText()
    # No nought stands ahead, but for 0 alone.
    if digits.startswith("0") and text != "0":
        raise NoText()
    return int(text)
