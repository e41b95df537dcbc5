"""Questions: which pair to ask about, and how many of them have to be asked until one table is left."""

from barelybetter.ends import codes_with, is_told, open_pairs, sure_answers
from barelybetter.grids import grid_with
from barelybetter.kinds import is_pair
from barelybetter.layers import codes_of
from barelybetter.rings import refuse_ring
from barelybetter.spaces import grids_of


def best_question(book, *, most=400):
    """Return the open pair of which the commoner answer leaves the fewest tables, or None."""
    grids = list(grids_of(book, most))
    if "question" not in book.kept:
        found = []
        for pair in open_pairs(book):
            bit = grid_with(book.things(), [pair])
            better = len([grid for grid in grids if grid & bit])
            found.append((max(better, len(grids) - better), pair))
        book.kept["question"] = min(found, default=(0, None))[1]
    return book.kept["question"]


def fewest_questions(book, *, most=20):
    """Return the least depth of an asking of a book."""
    return _least_asking(book, most)[0]


def asking(book, *, most=20):
    """Return an asking of a book of the least depth."""
    return _least_asking(book, most)[1]


def is_asking(book, thing):
    """Return whether any value is an asking of a book."""
    refuse_ring(book)
    return _is_asking(book.things(), codes_of(book), thing)


def _least_asking(book, most):
    """Return the least depth of an asking of a book, and an asking of this depth."""
    grids = list(grids_of(book, most))
    if "asking" not in book.kept:
        # Some of the tables are told by an integer: its bit k tells whether table k is one of them.
        sides = {}
        for pair in open_pairs(book):
            bit = grid_with(book.things(), [pair])
            sides[pair] = sum([1 << k for k, grid in enumerate(grids) if grid & bit])
        book.kept["asking"] = _least_plan((1 << len(grids)) - 1, sides, {})
    return book.kept["asking"]


def _least_plan(left, sides, found):
    """Return the least depth of an asking that tells the tables that are left, and such an asking."""
    if left & (left - 1) == 0:
        return (0, None)
    if left in found:
        return found[left]
    plans = []
    for pair in sides:
        better, other = left & sides[pair], left & ~sides[pair]
        if better and other:
            one, two = _least_plan(better, sides, found), _least_plan(other, sides, found)
            plans.append((1 + max(one[0], two[0]), (pair, one[1], two[1])))
    found[left] = min(plans, key=lambda plan: plan[0])
    return found[left]


def _is_asking(things, codes, thing):
    """Return whether any value is an asking of the book that has these codes of greatest weights."""
    if thing is None:
        return len(sure_answers(things, codes)) == len(things) * (len(things) - 1)
    if not isinstance(thing, tuple) or len(thing) != 3 or not is_pair(thing[0]):
        return False
    x, y = thing[0]
    if x not in things or y not in things or is_told(things, codes, (x, y)):
        return False
    if not _is_asking(things, codes_with(codes, things, (x, y, True)), thing[1]):
        return False
    return _is_asking(things, codes_with(codes, things, (x, y, False)), thing[2])
