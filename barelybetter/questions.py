"""Questions: which pair to ask about, and how many of them have to be asked until one table is left."""

from barelybetter.ends import is_told, open_pairs
from barelybetter.heaviest import heaviest_weights, weights_with
from barelybetter.kinds import is_pair, pairs_among
from barelybetter.spaces import grids_of
from barelybetter.walls import bits_of


def best_question(book, *, most=400):
    """Return the open pair of which the commoner answer leaves the fewest tables, or None."""
    grids = grids_of(book, most)
    bits = bits_of(book.things())
    found = []
    for pair in open_pairs(book):
        better = len([grid for grid in grids if grid & bits[pair]])
        found.append((max(better, len(grids) - better), pair))
    if len(found) == 0:
        return None
    return min(found)[1]


def fewest_questions(book, *, most=20):
    """Return the least depth of an asking of a book."""
    return _least_asking(book, most)[0]


def asking(book, *, most=20):
    """Return an asking of a book of the least depth."""
    return _least_asking(book, most)[1]


def is_asking(book, thing):
    """Return whether any value is an asking of a book."""
    return _is_asking(book.things(), heaviest_weights(book), thing)


def _least_asking(book, most):
    """Return the least depth of an asking of a book, and an asking of this depth."""
    grids = grids_of(book, most)
    bits = bits_of(book.things())
    # Some of the tables are kept as an integer: its bit k tells whether table k is one of them.
    sides = {pair: sum([1 << k for k, grid in enumerate(grids) if grid & bits[pair]]) for pair in open_pairs(book)}
    return _least_plan((1 << len(grids)) - 1, sides, {})


def _least_plan(left, sides, found):
    """Return the least depth of an asking that tells the tables that are left, and such an asking."""
    if left & (left - 1) == 0:
        return (0, None)
    if left in found:
        return found[left]
    plans = []
    for pair in sides:
        better, other = left & sides[pair], left & ~sides[pair]
        if better and other:
            one, two = _least_plan(better, sides, found), _least_plan(other, sides, found)
            plans.append((1 + max(one[0], two[0]), (pair, one[1], two[1])))
    found[left] = min(plans, key=lambda plan: plan[0])
    return found[left]


def _is_asking(things, weights, thing):
    """Return whether any value is an asking of the book that has these greatest weights."""
    if thing is None:
        return not any([_is_open(weights, pair) for pair in pairs_among(things)])
    if not isinstance(thing, tuple) or len(thing) != 3 or not is_pair(thing[0]):
        return False
    x, y = thing[0]
    if x not in things or y not in things or not _is_open(weights, thing[0]):
        return False
    if not _is_asking(things, weights_with(weights, (x, y, True)), thing[1]):
        return False
    return _is_asking(things, weights_with(weights, (x, y, False)), thing[2])


def _is_open(weights, pair):
    """Return whether neither answer about a pair is sure."""
    x, y = pair
    return not is_told(weights, (x, y, True)) and not is_told(weights, (x, y, False))
