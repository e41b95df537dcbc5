"""The greatest weights of walks, and the walks that have them."""

from barelybetter.layers import least_walk, weights_of
from barelybetter.rings import refuse_ring


def heaviest(book, x, y):
    """Return the greatest weight of a walk from x to y, or None if there is no walk."""
    refuse_ring(book)
    return weights_of(book).get((x, y))


def heaviest_walk(book, x, y):
    """Return the least walk from x to y with the greatest weight, or None."""
    weight = heaviest(book, x, y)
    if weight is None:
        return None
    steps, betters = weight
    return least_walk(book, betters + (betters - steps), (x, y), steps)
