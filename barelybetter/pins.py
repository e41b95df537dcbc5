"""Pins: the answers that pin a table down in a book."""

from barelybetter.books import Book
from barelybetter.ends import why
from barelybetter.walls import walls_of


def pins_of(book, table):
    """Return the least set of answers of a table that pins it down, ascending."""
    return [(x, y, table[x, y]) for x, y in walls_of(book, table)]


def pins_down(book, table, answers):
    """Return whether no other table fits a book and says all these answers of the table."""
    return all([pin in answers for pin in pins_of(book, table)])


def other_table(book, table, answers):
    """Return another Table that fits a book and says all these answers of the table, or None."""
    for x, y, truth in pins_of(book, table):
        if (x, y, truth) not in answers:
            return table.turned((x, y))
    return None


def pin_why(book, table, answer):
    """Return the least of the walks of the fewest answers of the book and of the pins that make an answer sure."""
    return why(book | Book(book.things(), pins_of(book, table)), answer)
