"""Wrong answers: how few have to be left out so that the rest is possible, and trees that show that fewer do not do.

Answers stand here by their places among all answers of a book; some of them are told by the bits of an integer.
"""

from barelybetter.grids import bit_places, count_of
from barelybetter.layers import outs_of
from barelybetter.rings import is_ring


def fewest_wrong(book):
    """Return how many answers must at least be left out so that the rest is possible."""
    return count_of(_least_outs(book)[0])


def left_outs(book):
    """Return all lists of so many answers, without which the rest is possible, ascending."""
    return sorted([_answers_in(book, bits) for bits in _least_outs(book)])


def surely_wrong(book):
    """Return the answers that stand in all of these lists, ascending."""
    shared = -1
    for bits in _least_outs(book):
        shared = shared & bits
    return _answers_in(book, shared)


def possibly_wrong(book):
    """Return the answers that stand in some of these lists, ascending."""
    union = 0
    for bits in _least_outs(book):
        union = union | bits
    return _answers_in(book, union)


def tree_for(book, many):
    """Return a tree that shows that a number of answers left out does not do, or None."""
    if fewest_wrong(book) <= many:
        return None
    return _tree_without(_rings_of(book), {}, many)


def is_tree(book, many, thing):
    """Return whether any value is a tree of a book for a number."""
    if not isinstance(thing, tuple) or len(thing) != 2:
        return False
    ring, trees = thing
    if not is_ring(book, ring) or not isinstance(trees, list):
        return False
    if many == 0:
        return len(trees) == 0
    if len(trees) != len(ring):
        return False
    return all([is_tree(book.out(answer), many - 1, tree) for answer, tree in zip(ring, trees)])


def _tree_without(rings, gone, many):
    """Return a tree for a number of the book from which some answers are gone."""
    ring = [walk for walk in rings if not any([answer in gone for answer in walk])][0]
    if many == 0:
        return (list(ring), [])
    return (list(ring), [_tree_without(rings, {**gone, answer: True}, many - 1) for answer in ring])


def _least_outs(book):
    """Return, as bits, all sets of the fewest answers of which each ring has one; the book keeps them."""
    if "left outs" not in book.kept:
        places = {answer: place for place, answer in enumerate(book)}
        rings = [sum([1 << places[answer] for answer in walk]) for walk in _rings_of(book)]
        found, wider = [], [0]
        while len(found) == 0:
            found, wider = _sets_that_meet(rings, wider)
        book.kept["left outs"] = found
    return book.kept["left outs"]


def _sets_that_meet(rings, sets):
    """Return those of some sets of which each ring has something, and the others with one of a ring more."""
    found, wider = [], {}
    for bits in sets:
        missed = [ring for ring in rings if not ring & bits]
        if len(missed) == 0:
            found.append(bits)
        else:
            # Whatever meets all rings has one of this ring.
            for place in bit_places(missed[0]):
                wider[bits | 1 << place] = True
    return (found, list(wider))


def _rings_of(book):
    """Return the rings of a book that lead through no thing twice, those of fewer answers first; the book keeps them.

    If one of each of these is left out, no ring is left at all.
    """
    if "rings" not in book.kept:
        outs, found = outs_of(book), []
        for start in range(len(outs)):
            found.extend(_rings_from(outs, start))
        book.kept["rings"] = sorted(found, key=len)
    return book.kept["rings"]


def _rings_from(outs, start):
    """Return the rings through a place, and through later places, that lead through none of them twice."""
    found, waiting = [], [(start, 0, 0, [])]
    while waiting:
        here, passed, steps, walk = waiting.pop()
        for end, step, answer in outs[here]:
            if end == start and steps + step >= 0:
                found.append(walk + [answer])
            elif end > start and not passed >> end & 1:
                waiting.append((end, passed | 1 << end, steps + step, walk + [answer]))
    return found


def _answers_in(book, bits):
    """Return the answers of a book at the places of some bits."""
    return [answer for place, answer in enumerate(book) if bits >> place & 1]
