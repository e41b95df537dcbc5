"""Pins: the answers that pin a table down in a book."""

from barelybetter.books import known_book
from barelybetter.layers import fewest_walk, need_of
from barelybetter.walls import refuse_unfit, walls_of


def pins_of(book, table):
    """Return the least set of answers of a table that pins it down, ascending."""
    return [(x, y, table[x, y]) for x, y in walls_of(book, table)]


def pins_down(book, table, answers):
    """Return whether no other table fits a book and says all these answers of the table."""
    return all([pin in answers for pin in pins_of(book, table)])


def other_table(book, table, answers):
    """Return another Table that fits a book and says all these answers of the table, or None."""
    for x, y, truth in pins_of(book, table):
        if (x, y, truth) not in answers:
            return table.turned((x, y))
    return None


def pin_why(book, table, answer):
    """Return the least of the walks of the fewest answers of the book and of the pins that make an answer sure."""
    refuse_unfit(book, [table])
    ends, steps = need_of(answer)
    return fewest_walk(_pinned(book, table), ends, steps)


def _pinned(book, table):
    """Return the Book of the answers of a book and of the pins of a table, which is kept for the last book asked."""
    answers = book.answers()
    if "pinned" not in table.kept or table.kept["pinned"][0] != answers:
        found = sorted(answers + pins_of(book, table))
        table.kept["pinned"] = (answers, known_book(table.things(), found))
    return table.kept["pinned"][1]
