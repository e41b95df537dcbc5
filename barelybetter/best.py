"""The best things: those than which no other one is better."""

from barelybetter.ends import surely
from barelybetter.layers import code_of, codes_of
from barelybetter.rings import refuse_ring


def best_of(scale):
    """Return the best things of a Scale, ascending."""
    things = scale.things()
    return [x for x in things if not any([scale.is_better(y, x) for y in things])]


def surely_best(book):
    """Return the things that are among the best for all worths that fit, ascending."""
    sure, things = surely(book), book.things()
    return [x for x in things if all([sure[y, x] is False for y in things if y != x])]


def possibly_best(book):
    """Return the things that are among the best for some worths that fit, ascending."""
    sure, things = surely(book), book.things()
    return [x for x in things if not any([sure[y, x] is True for y in things if y != x])]


def best_sets(book):
    """Return all lists of the best things that some worths that fit have, ascending."""
    refuse_ring(book)
    things = book.things()
    if len(things) == 0:
        return [[]]
    found = [_things_in(things, best) for best in _best_bits(codes_of(book), code_of(1, 0, len(things)))]
    return sorted(found)


def _best_bits(codes, step):
    """Return, as the bits of integers, all sets of places that are those of the best things for some worths that fit.

    One of the best things has the greatest worth, and just the others of them are worth less by a step at most.
    """
    places = range(len(codes))
    # What is surely worth as much as a place has to be among the best with it, what is surely better cannot be.
    above = [_bits_of([codes[other][place] >= 0 for other in places]) for place in places]
    barred = [_bits_of([codes[other][place] >= step for other in places]) for place in places]
    # A place with the greatest worth, and what is surely worth less by a step at most.
    near = {1 << place: _bits_of([codes[other][place] >= -step for other in places]) for place in places
            if all([codes[other][place] <= 0 for other in places])}
    return [best for best in range(1 << len(codes))
            if all([above[place] & ~best == 0 and barred[place] & best == 0 for place in places if best >> place & 1])
            and any([best & top and near[top] & ~best == 0 for top in near])]


def _bits_of(truths):
    """Return the integer with the bits that are told."""
    return sum([1 << place for place, truth in enumerate(truths) if truth])


def _things_in(things, bits):
    """Return the things at the places of some bits."""
    return [thing for place, thing in enumerate(things) if bits >> place & 1]
