"""The greatest weights of walks, and the walks that have them."""

from barelybetter.kinds import ends_of
from barelybetter.layers import least_walk, weights_of
from barelybetter.rings import refuse_ring


def heaviest(book, x, y):
    """Return the greatest weight of a walk from x to y, or None if there is no walk."""
    return heaviest_weights(book).get((x, y))


def heaviest_walk(book, x, y):
    """Return the least walk from x to y with the greatest weight, or None."""
    weight = heaviest(book, x, y)
    if weight is None:
        return None
    steps, betters = weight
    return least_walk(book, betters + (betters - steps), (x, y), steps)


def heaviest_weights(book):
    """Return the greatest weights of walks by their ends, which the book keeps: they are only read."""
    refuse_ring(book)
    return weights_of(book)


def weights_with(weights, answer):
    """Return the greatest weights with an answer more, about a pair that is open."""
    start, end = ends_of(answer)
    steps, betters = (1, 1) if answer[2] else (-1, 0)
    found = {ends: weights[ends] for ends in weights}
    # No ring comes, so that no heavier walk goes through the answer twice.
    for x, here in weights:
        for there, z in weights:
            if here == start and there == end:
                ahead, behind = weights[x, start], weights[end, z]
                weight = (ahead[0] + steps + behind[0], ahead[1] + betters + behind[1])
                found[x, z] = max(weight, found.get((x, z), weight))
    return found
