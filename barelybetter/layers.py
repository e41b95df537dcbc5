"""Walks by their numbers of answers: the most steps that they can have, and the least of them."""

from barelybetter.kinds import ends_of


def layers_of(book):
    """Return a dict for each number of answers from 0 to that of the things.

    It gives the ends of walks of just so many answers the most steps of such a walk.
    No longer walks are needed: a ring of the fewest answers comes through no thing twice,
    and where there is no ring, a walk loses steps by each way round.
    """
    layers = [{(thing, thing): 0 for thing in book.things()}]
    for _ in book.things():
        layers.append(_next_layer(book, layers[-1]))
    return layers


def fewest_walk(book, layers, ends, steps):
    """Return the least of the walks of the fewest answers with these ends and at least so many steps, or None."""
    for many in range(len(layers)):
        if ends in layers[many] and layers[many][ends] >= steps:
            return least_walk(book, layers, many, ends, steps)
    return None


def least_walk(book, layers, many, ends, steps):
    """Return the least walk of just so many answers with these ends and at least so many steps; there has to be one."""
    here, last = ends
    walk = []
    for left in reversed(range(many)):
        answer = _least_answer(book, layers[left], (here, last), steps)
        walk.append(answer)
        here = ends_of(answer)[1]
        steps = steps - _step_of(answer)
    return walk


def _next_layer(book, layer):
    """Return the most steps of walks with one answer more than those of a layer."""
    found = {}
    for answer in book:
        start, end = ends_of(answer)
        for last in book.things():
            if (end, last) in layer:
                steps = _step_of(answer) + layer[end, last]
                found[start, last] = max(steps, found.get((start, last), steps))
    return found


def _least_answer(book, layer, ends, steps):
    """Return the least answer with which a walk can begin that goes on with one of a layer."""
    here, last = ends
    for answer in book:
        start, end = ends_of(answer)
        if start == here and (end, last) in layer and _step_of(answer) + layer[end, last] >= steps:
            return answer
    return None


def _step_of(answer):
    """Return how many steps an answer adds to a walk."""
    if answer[2]:
        return 1
    return -1
