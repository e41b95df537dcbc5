"""Judges: what two books about the same things say together, if the steps of their judges are not the same."""

from barelybetter.books import Book, known_book
from barelybetter.errors import NoRatio, Unlike, Wrong
from barelybetter.kinds import ends_of, is_integer
from barelybetter.layers import NOWHERE, greatest_rows, least_round, told_by
from barelybetter.scales import Scale

# Ends are fractions, told by tuples (a, b) of a / b; the latter one is above all numbers.
NOUGHT = (0, 1)
NO_END = (1, 0)


class Judges:
    """Two Books of the same things, one with the step 1, other with a step above 0 that nobody knows."""

    def __init__(self, one, other):
        if not isinstance(one, Book):
            raise Wrong(0)
        if not isinstance(other, Book):
            raise Wrong(1)
        if one.things() != other.things():
            raise Unlike()
        self._books = [one, other]
        self._things = one.things()
        # What was worked out, under a word for each: the Books never change, so that this holds for good.
        self.kept = {}

    def limits(self):
        """Return the ends between which just those steps of other are that some worths fit."""
        cells = self._possible_cells()
        low, high = cells[0][0], cells[-1][2]
        return (low, None if high == NO_END else high)

    def rounds(self):
        """Return a round that bars all up to the lower end, and one that bars all from the upper end on."""
        low, high = self.limits()
        return (None if low == NOUGHT else self.round_at(low[0], low[1]),
                None if high is None else self.round_at(high[0], high[1]))

    def round_at(self, a, b):
        """Return the least of the rounds of the fewest marks that bar the step a / b, or None."""
        return least_round(self._outs_at(a, b))

    def is_round_at(self, a, b, thing):
        """Return whether any value is a round that bars the step a / b."""
        if not isinstance(thing, list) or len(thing) == 0 or not all([self._is_mark(mark) for mark in thing]):
            return False
        ends = [ends_of(answer) for _, answer in thing]
        if any([ahead[1] != behind[0] for ahead, behind in zip(ends, ends[1:] + ends[:1])]):
            return False
        p, q = weight_of_marks(thing)
        return p * b + q * a >= 0

    def scales_at(self, a, b):
        """Return two Scales with the same worths that fit one and other, the steps of which are as 1 to a / b."""
        rows = self._rows_at(a, b)
        if rows is None:
            raise NoRatio([self.round_at(a, b)])
        worths = {thing: max(row) for thing, row in zip(self._things, rows)}
        return (Scale(worths, self._many() * b), Scale(worths, self._many() * a))

    def is_sure(self, side, answer):
        """Return whether an answer of one of both judges is so for all steps and all worths that fit."""
        return answer in self.surely(side)

    def surely(self, side):
        """Return the Book of all sure answers of one of both judges."""
        cells = self._possible_cells()
        if "sure" not in self.kept:
            numbers = [cell[1] for cell in cells]
            rows = [self._rows_at(a, b) for a, b in numbers]
            steps = [[b for _, b in numbers], [a for a, _ in numbers]]
            self.kept["sure"] = [self._shared(rows, row) for row in steps]
        return self.kept["sure"][side]

    def _shared(self, rows, steps):
        """Return the Book of the answers that all of some rows make sure, with the step of a better for each."""
        counts = {}
        for one, step in zip(rows, steps):
            for answer in told_by(self._things, one, step * self._many()):
                counts[answer] = counts.get(answer, 0) + 1
        return known_book(self._things, [answer for answer in sorted(counts) if counts[answer] == len(rows)])

    def _possible_cells(self):
        """Return the cells of the steps that are possible, in their order, or raise NoRatio; the Judges keep them."""
        if "cells" not in self.kept:
            self._find_cells()
        if len(self.kept["cells"]) == 0:
            raise NoRatio([list(walk) for walk in self.kept["barred"]])
        return self.kept["cells"]

    def _find_cells(self):
        """Keep the cells of the steps that are possible; or, if there are none, one round or two that bar all."""
        cells, barred = _cells_between(NOUGHT, NO_END, len(self._things)), []
        while cells and self._rows_at(cells[0][1][0], cells[0][1][1]) is None:
            walk = self.round_at(cells[0][1][0], cells[0][1][1])
            p, q = weight_of_marks(walk)
            # What does not bar all bars all up to an end, or, from an end up to which all are barred, all others.
            barred = [walk] if p >= 0 and q >= 0 else barred[-1:] + [walk]
            cells = _not_barred(cells, p, q)
        while cells and self._rows_at(cells[-1][1][0], cells[-1][1][1]) is None:
            p, q = weight_of_marks(self.round_at(cells[-1][1][0], cells[-1][1][1]))
            cells = _not_barred(cells, p, q)
        self.kept["cells"] = cells
        self.kept["barred"] = barred

    def _rows_at(self, a, b):
        """Return the most that walks of marks have from each place to each one, or None if a / b is barred.

        A better of one leads on by b, one of other by a, both times the number of things, and by one more.
        """
        rows = [[NOWHERE for _ in self._things] for _ in self._things]
        for here, out in enumerate(self._outs_at(a, b)):
            for end, step, _ in out:
                rows[here][end] = max(rows[here][end], step * self._many() + (1 if step > 0 else 0))
        return greatest_rows(rows)

    def _outs_at(self, a, b):
        """Return for each place what leads from it: tuples (place to which, steps times b, mark), ascending."""
        places = {thing: place for place, thing in enumerate(self._things)}
        outs = [[] for _ in self._things]
        for side, step in ((0, b), (1, a)):
            for answer in self._books[side]:
                start, end = ends_of(answer)
                outs[places[start]].append((places[end], step if answer[2] else -step, (side, answer)))
        return outs

    def _is_mark(self, thing):
        """Return whether any value is a mark of an answer of one of both Books."""
        if not isinstance(thing, tuple) or len(thing) != 2 or not is_integer(thing[0]) or thing[0] not in (0, 1):
            return False
        return thing[1] in self._books[thing[0]]

    def _many(self):
        """Return the number of things, but at least 1."""
        return max(1, len(self._things))


def weight_of_marks(walk):
    """Return the steps of the answers of one, and those of the answers of other, in a walk of marks."""
    steps = [0, 0]
    for side, answer in walk:
        steps[side] = steps[side] + (1 if answer[2] else -1)
    return (steps[0], steps[1])


def _cells_between(low, high, most):
    """Return the cells between two ends, in their order: tuples (lower end, a number between, upper end).

    No fraction a / b with a + b at most so many stands in a cell: what bars one number of it bars all of them [11].
    """
    middle = (low[0] + high[0], low[1] + high[1])
    if middle[0] + middle[1] > most:
        return [(low, middle, high)]
    return _cells_between(low, middle, most) + _cells_between(middle, high, most)


def _not_barred(cells, p, q):
    """Return the cells that a round with a weight does not bar."""
    return [cell for cell in cells if p * cell[1][1] + q * cell[1][0] < 0]
