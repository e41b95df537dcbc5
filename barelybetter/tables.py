"""Tables: what some worths and a step say about all pairs of some things, and the patterns that none of them has."""

from barelybetter.books import known_book
from barelybetter.ends import surely
from barelybetter.errors import NoPair, NoTable, NoThing, Unlike, Wrong
from barelybetter.grids import bit_places, grid_of, have_no_pattern, pairs_in, rows_in, rows_of, told_rows, turns_of
from barelybetter.kinds import are_names, are_pairs, first_stranger, is_pair, pairs_among


class Table:
    """Some things, and the pairs (x, y) of them in which x is better than y, as some worths tell them."""

    def __init__(self, things, betters):
        if not are_names(things):
            raise Wrong(0)
        if not are_pairs(betters):
            raise Wrong(1)
        stranger = first_stranger(things, betters)
        if stranger is not None:
            raise NoThing(stranger)
        self._things = sorted(things)
        self._places = {thing: place for place, thing in enumerate(self._things)}
        self._betters = sorted(set(betters))
        self._rows = rows_of(self._things, self._betters)
        # What was worked out for this Table, under a word for each: it never changes, so that this holds for good.
        self.kept = {}
        if not have_no_pattern(self._rows):
            raise NoTable(least_pattern(self._things, self._rows))

    def things(self):
        """Return the things, ascending."""
        return list(self._things)

    def betters(self):
        """Return the pairs (x, y) in which x is better than y, ascending."""
        return list(self._betters)

    def full_book(self):
        """Return the Book with the answer about each pair."""
        if "full" not in self.kept:
            self.kept["full"] = known_book(self._things, [(x, y, self[x, y]) for x, y in pairs_among(self._things)])
        return self.kept["full"]

    def fits(self, book):
        """Return whether a Book has the same things, and only answers that the table says."""
        if self._things != book.things():
            return False
        told, betters = told_rows(book)
        return [row & bits for row, bits in zip(self._rows, told)] == betters

    def turned(self, pair):
        """Return the Table with the answer about one pair turned."""
        if self[pair]:
            betters = [other for other in self._betters if other != pair]
        else:
            betters = sorted(self._betters + [pair])
        rows = rows_of(self._things, betters)
        if not have_no_pattern(rows):
            raise NoTable(least_pattern(self._things, rows))
        return known_table(self._things, self._places, rows, betters)

    def within(self, other):
        """Return whether the other Table has the same things, and all these betters."""
        if self._things != other._things:
            return False
        return all([other[pair] for pair in self._betters])

    def grid(self):
        """Return the grid of the betters."""
        if "grid" not in self.kept:
            self.kept["grid"] = grid_of(self._rows)
        return self.kept["grid"]

    def turns(self):
        """Return the grid of the pairs that can be turned alone, in whatever book."""
        if "turns" not in self.kept:
            self.kept["turns"] = turns_of(self._rows)
        return self.kept["turns"]

    def __len__(self):
        return len(self._betters)

    def __iter__(self):
        return iter(self._betters)

    def __getitem__(self, at):
        if not is_pair(at) or at[0] not in self._places or at[1] not in self._places:
            raise NoPair(at)
        return self._rows[self._places[at[0]]] >> self._places[at[1]] & 1 == 1

    def __eq__(self, other):
        return isinstance(other, Table) and self._things == other._things and self._rows == other._rows

    def __invert__(self):
        return Table(self._things, [(y, x) for x, y in self._betters])

    def __xor__(self, other):
        if self._things != other._things:
            raise Unlike()
        unlike = [one ^ two for one, two in zip(self._rows, other._rows)]
        return [(x, self._things[place]) for x, row in zip(self._things, unlike) for place in bit_places(row)]


def known_table(things, places, rows, betters):
    """Return the Table of these things with their places, and of the rows of these betters, ascending.

    None of them is changed later. Nothing is checked, so that it is made sooner than by what anybody may pass in.
    """
    table = Table((), ())
    table._things = things
    table._places = places
    table._rows = rows
    table._betters = betters
    return table


def table_in(things, grid):
    """Return the Table that a grid of ascending things tells."""
    places = {thing: place for place, thing in enumerate(things)}
    return known_table(things, places, rows_in(grid, len(things)), pairs_in(things, grid))


def table_of(scale):
    """Return the Table that a Scale tells."""
    things = scale.things()
    return Table(things, [(x, y) for x, y in pairs_among(things) if scale.is_better(x, y)])


def only_table(book):
    """Return the Table that fits a book, if it is the only one, or None."""
    sure = surely(book)
    if sure.untold():
        return None
    return Table(book.things(), [(x, y) for x, y, truth in sure.answers() if truth])


def patterns_of(things, betters):
    """Return all patterns of some pairs of things, ascending."""
    better = {pair: True for pair in betters}
    found = []
    for x, y in better:
        for z, w in better:
            if (x, w) not in better and (z, y) not in better:
                found.append(("two", x, y, z, w))
        for z in things:
            if (y, z) in better:
                found.extend([("three", x, y, z, w) for w in things if (x, w) not in better and (w, z) not in better])
    return sorted(found)


def least_pattern(things, rows):
    """Return the least pattern of the rows of ascending things, or None; there may be many things."""
    places = _least_three(rows)
    if places is not None:
        return ("three",) + tuple([things[place] for place in places])
    return least_two(things, rows)


def least_two(things, rows):
    """Return the least pattern "two" of the rows of ascending things, or None; there may be many things."""
    places = _least_two(rows)
    if places is not None:
        return ("two",) + tuple([things[place] for place in places])
    return None


def _least_three(rows):
    """Return the places of the least pattern "three", or None."""
    for x, row in enumerate(rows):
        outside = [place for place in range(len(rows)) if row and not row >> place & 1]
        shared = _shared([rows[place] for place in outside])
        for y in bit_places(row):
            # What y is better than, and some thing outside is not.
            missed = rows[y] & ~shared
            if missed:
                z = _lowest(missed)
                return (x, y, z, [place for place in outside if not rows[place] >> z & 1][0])
    return None


def _least_two(rows):
    """Return the places of the least pattern "two", or None."""
    for x, row in enumerate(rows):
        others = [place for place, other in enumerate(rows) if row and other & ~row]
        # What x is better than, and one that is better than something else is not.
        missed = row & ~_shared([rows[place] for place in others])
        if missed:
            y = _lowest(missed)
            z = [place for place in others if not rows[place] >> y & 1][0]
            return (x, y, z, _lowest(rows[z] & ~row))
    return None


def _shared(rows):
    """Return the bits that all rows have; of no rows all bits."""
    shared = -1
    for row in rows:
        shared = shared & row
    return shared


def _lowest(row):
    """Return the lowest place of the bits of a row."""
    return (row & -row).bit_length() - 1
