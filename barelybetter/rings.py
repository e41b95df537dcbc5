"""Rings: walks round that show that no worths fit."""

from barelybetter.errors import Ring
from barelybetter.layers import layers_of, least_walk
from barelybetter.walks import is_walk, things_through, weight_of


def ring_of(book):
    """Return the least of the rings of the fewest answers, or None."""
    layers = layers_of(book)
    for many in range(1, len(layers)):
        rounds = [(thing, thing) for thing in book.things() if layers[many].get((thing, thing), -1) >= 0]
        if rounds:
            return min([least_walk(book, layers, many, ends, 0) for ends in rounds])
    return None


def is_ring(book, thing):
    """Return whether any value is a ring of answers of a book."""
    if not is_walk(book, thing) or len(thing) == 0:
        return False
    things = things_through(thing)
    return things[0] == things[-1] and weight_of(thing)[0] >= 0


def is_possible(book):
    """Return whether some worths fit a book."""
    return ring_of(book) is None


def refuse_ring(book):
    """Raise Ring with the ring of a book that is not possible."""
    ring = ring_of(book)
    if ring is not None:
        raise Ring(ring)
