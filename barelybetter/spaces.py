"""Spaces: all tables that fit a book, and how they hang together."""

from barelybetter.errors import NoNumber, TooMany, Unfit
from barelybetter.grids import bit_places, count_of, grid_with, rows_in, turns_by_grid, turns_of
from barelybetter.kinds import is_integer
from barelybetter.rings import refuse_ring
from barelybetter.scales import plainest
from barelybetter.tables import Table, known_table, table_of


class Space:
    """All tables that fit a book."""

    def __init__(self, book, *, most=400):
        self._turns = grids_of(book, most)
        self._book = book
        self._tables = _tables_of(book, list(self._turns))
        self._numbers = {table.grid(): number for number, table in enumerate(self._tables)}

    @property
    def book(self):
        """The Book."""
        return self._book

    def listed(self):
        """Return the Tables, ascending by their lists of betters."""
        return list(self._tables)

    def number(self, table):
        """Return the index of a Table."""
        if table not in self:
            raise Unfit()
        return self._numbers[table.grid()]

    def links(self):
        """Return how many sets of two tables say otherwise about just one pair."""
        return sum([count_of(self._turns[grid]) for grid in self._turns]) // 2

    def counts(self, pair):
        """Return in how many tables x is better than y, and in how many it is not."""
        bit = grid_with(self._book.things(), [pair])
        better = len([grid for grid in self._numbers if grid & bit])
        return (better, len(self._tables) - better)

    def farthest(self):
        """Return the greatest number of pairs about which two tables say otherwise."""
        if "farthest" not in self._book.kept:
            self._book.kept["farthest"] = _farthest(list(self._numbers))
        return self._book.kept["farthest"]

    def between(self, one, other):
        """Return the tables that stand in some way from one table to the other one."""
        start, unlike = one.grid(), one.grid() ^ other.grid()
        # Straight ways lead through all tables that say whatever both say [6].
        return [self._tables[number] for grid, number in self._numbers.items() if (grid ^ start) & ~unlike == 0]

    def __len__(self):
        return len(self._tables)

    def __iter__(self):
        return iter(self._tables)

    def __contains__(self, x):
        if not isinstance(x, Table) or x.things() != self._book.things():
            return False
        return grid_with(x.things(), x.betters()) in self._numbers

    def __getitem__(self, at):
        if not is_integer(at) or not 0 <= at < len(self._tables):
            raise NoNumber(at)
        return self._tables[at]


def grids_of(book, most):
    """Return for the grid of each table that fits a book that of its walls; raise TooMany if there are more than most.

    The book keeps it: it is not to be changed.
    """
    refuse_ring(book)
    # Single turned answers lead from each table to all others [6].
    found = turns_by_grid(book, "tables by grids", _plainest_grid, turns_of, most)
    if found is None:
        raise TooMany(most)
    return found


def _plainest_grid(book):
    """Return the grid of the table that plainest tells."""
    return table_of(plainest(book)).grid()


def _tables_of(book, grids):
    """Return the Tables of a book with the grids of all of them, ascending by their betters; the book keeps them."""
    if "tables" not in book.kept:
        things, tables = book.things(), []
        places = {thing: place for place, thing in enumerate(things)}
        pairs = [(x, y) for x in things for y in things]
        # The lists of the places of bits are in the order of those of their pairs.
        for bits, grid in sorted([(bit_places(grid), grid) for grid in grids]):
            tables.append(known_table(things, places, rows_in(grid, len(things)), [pairs[bit] for bit in bits]))
        book.kept["tables"] = tables
    return book.kept["tables"]


def _farthest(grids):
    """Return the greatest number of bits in which two grids are unlike.

    For all grids at once this is counted in one integer, in which each grid has a lane of its own.
    """
    bits = bit_places(_union_of(grids))
    width = len(bits).bit_length() + 1
    each = sum([1 << at * width for at in range(len(grids))])
    sides = {bit: sum([1 << at * width for at, grid in enumerate(grids) if grid >> bit & 1]) for bit in bits}
    nothing, most = sum(list(sides.values())), 0
    for grid in grids:
        lanes = nothing + sum([each - 2 * sides[bit] for bit in bit_places(grid)])
        # A lane with more than most comes to have its highest bit.
        while (lanes + each * ((1 << (width - 1)) - 1 - most)) & (each << (width - 1)):
            most = most + 1
    return most


def _union_of(grids):
    """Return the bits that some grid has."""
    union = 0
    for grid in grids:
        union = union | grid
    return union
