"""Scales: worths with a step, the plainest ones that fit a book, and what happens between two of them."""

from math import gcd, lcm

from barelybetter.books import known_book
from barelybetter.errors import NoThing, Unlike, Wrong
from barelybetter.kinds import is_integer, is_name, pairs_among
from barelybetter.layers import NOWHERE, codes_of, weight_of_code
from barelybetter.rings import refuse_ring


class Scale:
    """Worths of some things, and the step from which on a difference is noticed."""

    def __init__(self, worths, step):
        if not _are_worths(worths):
            raise Wrong(0)
        if not is_integer(step) or step < 1:
            raise Wrong(1)
        self._worths = {name: worths[name] for name in sorted(worths)}
        self._step = step

    @property
    def step(self):
        """The step, an integer from 1 on."""
        return self._step

    def things(self):
        """Return the names, ascending."""
        return list(self._worths)

    def worths(self):
        """Return the worths by their names."""
        return dict(self._worths)

    def is_better(self, x, y):
        """Return whether x is better than y."""
        return self._worths[x] - self._worths[y] > self._step

    def full_book(self):
        """Return the Book with an answer about each pair."""
        return known_book(self.things(), [(x, y, self.is_better(x, y)) for x, y in pairs_among(self.things())])

    def fits(self, book):
        """Return whether the worths and the step fit a Book."""
        if self.things() != book.things():
            return False
        return all([self.is_better(x, y) == truth for x, y, truth in book.answers()])

    def __getitem__(self, at):
        if not is_name(at) or at not in self._worths:
            raise NoThing(at)
        return self._worths[at]

    def __iter__(self):
        raise TypeError("a Scale is not iterated over")

    def __eq__(self, other):
        return isinstance(other, Scale) and self._worths == other._worths and self._step == other._step

    def __add__(self, other):
        return Scale({name: self._worths[name] + other for name in self._worths}, self._step)

    def __radd__(self, other):
        return self + other

    def __mul__(self, other):
        return Scale({name: self._worths[name] * other for name in self._worths}, self._step * other)

    def __rmul__(self, other):
        return self * other

    def __neg__(self):
        return Scale({name: -self._worths[name] for name in self._worths}, self._step)


def plainest(book):
    """Return the Scale with the least worths that fit a book by the step of its number of things."""
    refuse_ring(book)
    things = book.things()
    step = max(1, len(things))
    worths = {}
    # A walk holds up its start by a step for each of its steps, and by one more for each better.
    for thing, row in zip(things, codes_of(book)):
        weights = [weight_of_code(code, len(things)) for code in row if code != NOWHERE]
        worths[thing] = max([steps * step + betters for steps, betters in weights])
    return Scale(worths, step)


def moments(one, other):
    """Return the times between two Scales at which a pair that they call unlike is apart by just a step."""
    if one.things() != other.things():
        raise Unlike()
    found = {}
    for x, y in pairs_among(one.things()):
        if one.is_better(x, y) != other.is_better(x, y):
            found.setdefault(_time_of(one, other, (x, y)), []).append((x, y))
    return [(a, b, found[a, b]) for a, b in _in_order(list(found))]


def _are_worths(thing):
    """Return whether any value is a dict from names to integers."""
    if not isinstance(thing, dict):
        return False
    return all([is_name(name) and is_integer(thing[name]) for name in thing])


def _time_of(one, other, pair):
    """Return the time, in lowest terms, at which a pair that is called unlike is apart by just a step."""
    x, y = pair
    # How far above a step the pair is in one and in other, both counted in the product of both steps.
    ahead = (one[x] - one[y] - one.step) * other.step
    behind = (other[x] - other[y] - other.step) * one.step
    part, whole = abs(ahead), abs(ahead - behind)
    common = gcd(part, whole)
    return (part // common, whole // common)


def _in_order(times):
    """Return times, tuples (a, b) of a / b, in their order."""
    common = 1
    for _, b in times:
        common = lcm(common, b)
    return sorted(times, key=lambda time: time[0] * (common // time[1]))
