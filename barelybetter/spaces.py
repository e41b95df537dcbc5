"""Spaces: all tables that fit a book, and how they hang together."""

from barelybetter.ends import open_pairs
from barelybetter.errors import NoNumber, TooMany, Unfit
from barelybetter.kinds import is_integer
from barelybetter.scales import plainest
from barelybetter.tables import Table, table_of
from barelybetter.walls import bits_of, grid_of, is_grid


class Space:
    """All tables that fit a book."""

    def __init__(self, book, *, most=400):
        things, bits = book.things(), bits_of(book.things())
        rows = sorted([[pair for pair in bits if grid & bits[pair]] for grid in grids_of(book, most)])
        self._book = book
        self._tables = [Table(things, betters) for betters in rows]
        self._numbers = {grid_of(table): number for number, table in enumerate(self._tables)}

    @property
    def book(self):
        """The Book."""
        return self._book

    def listed(self):
        """Return the Tables, ascending by their lists of betters."""
        return list(self._tables)

    def number(self, table):
        """Return the index of a Table."""
        if table not in self:
            raise Unfit()
        return self._numbers[grid_of(table)]

    def links(self):
        """Return how many sets of two tables say otherwise about just one pair."""
        bits = bits_of(self._book.things())
        return len([grid for grid in self._numbers for pair in bits
                    if grid & bits[pair] and grid ^ bits[pair] in self._numbers])

    def counts(self, pair):
        """Return in how many tables x is better than y, and in how many it is not."""
        better = len([table for table in self._tables if table[pair]])
        return (better, len(self._tables) - better)

    def farthest(self):
        """Return the greatest number of pairs about which two tables say otherwise."""
        grids = list(self._numbers)
        return max([_count_of(one ^ other) for at, one in enumerate(grids) for other in grids[at:]])

    def between(self, one, other):
        """Return the tables that stand in some way from one table to the other one."""
        start, unlike = grid_of(one), grid_of(one) ^ grid_of(other)
        # Straight ways lead through all tables that say whatever both say [6].
        return [self._tables[number] for grid, number in self._numbers.items() if (grid ^ start) & ~unlike == 0]

    def __len__(self):
        return len(self._tables)

    def __iter__(self):
        return iter(self._tables)

    def __contains__(self, x):
        if not isinstance(x, Table) or x.things() != self._book.things():
            return False
        return grid_of(x) in self._numbers

    def __getitem__(self, at):
        if not is_integer(at) or not 0 <= at < len(self._tables):
            raise NoNumber(at)
        return self._tables[at]


def grids_of(book, most):
    """Return the grids of all tables that fit a book; raise TooMany if there are more than most."""
    bits = bits_of(book.things())
    turns = [bits[pair] for pair in open_pairs(book)]
    first = grid_of(table_of(plainest(book)))
    found = {first: True}
    waiting = [first]
    # Single turned answers lead from each table to all others [6].
    while waiting:
        grid = waiting.pop()
        for bit in turns:
            if grid ^ bit not in found and is_grid(len(book.things()), grid ^ bit):
                if len(found) == most:
                    raise TooMany(most)
                found[grid ^ bit] = True
                waiting.append(grid ^ bit)
    return list(found)


def _count_of(grid):
    """Return how many bits a grid has."""
    return f"{grid:b}".count("1")
