"""The greatest weights of walks, and the walks that have them."""

from barelybetter.kinds import ends_of
from barelybetter.layers import layers_of, least_walk
from barelybetter.rings import refuse_ring


def heaviest(book, x, y):
    """Return the greatest weight of a walk from x to y, or None if there is no walk."""
    return heaviest_weights(book).get((x, y))


def heaviest_walk(book, x, y):
    """Return the least walk from x to y with the greatest weight, or None."""
    weight = heaviest(book, x, y)
    if weight is None:
        return None
    steps, betters = weight
    return least_walk(book, layers_of(book), betters + (betters - steps), (x, y), steps)


def heaviest_weights(book):
    """Return the greatest weights of walks by their ends."""
    refuse_ring(book)
    found = {}
    for many, layer in enumerate(layers_of(book)):
        for ends in layer:
            # Of walks of equally many answers that with the most steps has the most betters, too.
            weight = (layer[ends], (many + layer[ends]) // 2)
            found[ends] = max(weight, found.get(ends, weight))
    return found


def weights_with(weights, answer):
    """Return the greatest weights with an answer more, about a pair that is open."""
    start, end = ends_of(answer)
    steps, betters = (1, 1) if answer[2] else (-1, 0)
    found = {ends: weights[ends] for ends in weights}
    # No ring comes, so that no heavier walk goes through the answer twice.
    for x, here in weights:
        for there, z in weights:
            if here == start and there == end:
                ahead, behind = weights[x, start], weights[end, z]
                weight = (ahead[0] + steps + behind[0], ahead[1] + betters + behind[1])
                found[x, z] = max(weight, found.get((x, z), weight))
    return found
