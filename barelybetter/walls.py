"""Walls: the answers of a table that can be turned alone, so that a table is left that fits the book."""

from barelybetter.errors import Unfit
from barelybetter.grids import bit_places, grid_with, pairs_in, told_grid
from barelybetter.rings import refuse_ring
from barelybetter.tables import table_in


def walls_of(book, table):
    """Return the walls of a table in a book, ascending."""
    return pairs_in(book.things(), _turns_in(book, table))


def turns_alone(book, table, pair):
    """Return whether a pair is a wall of a table in a book."""
    return _turns_in(book, table) & grid_with(book.things(), [pair]) != 0


def neighbours(book, table):
    """Return the Tables with the answer about one wall turned, in the order of the walls."""
    return [table_in(table.things(), table.grid() ^ 1 << bit) for bit in bit_places(_turns_in(book, table))]


def refuse_unfit(book, tables):
    """Raise Ring if a book is not possible, then Unfit if a table does not fit it."""
    refuse_ring(book)
    if not all([table.fits(book) for table in tables]):
        raise Unfit()


def _turns_in(book, table):
    """Return the grid of the walls of a table in a book."""
    refuse_unfit(book, [table])
    return table.turns() & ~told_grid(book)
