"""Walls: the answers of a table that can be turned alone, so that a table is left that fits the book."""

from barelybetter.errors import Unfit
from barelybetter.rings import refuse_ring
from barelybetter.tables import have_no_pattern


def walls_of(book, table):
    """Return the walls of a table in a book, ascending."""
    refuse_unfit(book, [table])
    bits = bits_of(table.things())
    grid = grid_of(table)
    return [pair for pair in book.untold() if is_grid(len(table.things()), grid ^ bits[pair])]


def turns_alone(book, table, pair):
    """Return whether a pair is a wall of a table in a book."""
    return pair in walls_of(book, table)


def neighbours(book, table):
    """Return the Tables with the answer about one wall turned, in the order of the walls."""
    return [table.turned(pair) for pair in walls_of(book, table)]


def refuse_unfit(book, tables):
    """Raise Ring if a book is not possible, then Unfit if a table does not fit it."""
    refuse_ring(book)
    if not all([table.fits(book) for table in tables]):
        raise Unfit()


def bits_of(things):
    """Return the bit of each pair of ascending things in a grid, which is an integer that keeps betters."""
    many = len(things)
    return {(x, y): 1 << (i * many + j) for i, x in enumerate(things) for j, y in enumerate(things) if i != j}


def grid_of(table):
    """Return the grid of the betters of a table."""
    bits = bits_of(table.things())
    return sum([bits[pair] for pair in table])


def is_grid(many, grid):
    """Return whether a grid of so many things is that of a table."""
    row = (1 << many) - 1
    return have_no_pattern([grid >> (place * many) & row for place in range(many)])
