"""Rings: walks round that show that no worths fit."""

from barelybetter.errors import Ring
from barelybetter.layers import codes_of, least_ring
from barelybetter.walks import is_walk, things_through, weight_of


def ring_of(book):
    """Return the least of the rings of the fewest answers, or None."""
    if is_possible(book):
        return None
    return list(least_ring(book))


def is_ring(book, thing):
    """Return whether any value is a ring of answers of a book."""
    if not is_walk(book, thing) or len(thing) == 0:
        return False
    things = things_through(thing)
    return things[0] == things[-1] and weight_of(thing)[0] >= 0


def is_possible(book):
    """Return whether some worths fit a book."""
    return codes_of(book) is not None


def refuse_ring(book):
    """Raise Ring with the ring of a book that is not possible."""
    if not is_possible(book):
        raise Ring(ring_of(book))
