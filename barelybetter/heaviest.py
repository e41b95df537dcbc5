"""The greatest weights of walks, and the walks that have them."""

from barelybetter.layers import layers_of, least_walk
from barelybetter.rings import refuse_ring


def heaviest(book, x, y):
    """Return the greatest weight of a walk from x to y, or None if there is no walk."""
    return heaviest_weights(book).get((x, y))


def heaviest_walk(book, x, y):
    """Return the least walk from x to y with the greatest weight, or None."""
    weight = heaviest(book, x, y)
    if weight is None:
        return None
    steps, betters = weight
    return least_walk(book, layers_of(book), betters + (betters - steps), (x, y), steps)


def heaviest_weights(book):
    """Return the greatest weights of walks by their ends."""
    refuse_ring(book)
    found = {}
    for many, layer in enumerate(layers_of(book)):
        for ends in layer:
            # Of walks of equally many answers that with the most steps has the most betters, too.
            weight = (layer[ends], (many + layer[ends]) // 2)
            found[ends] = max(weight, found.get(ends, weight))
    return found
