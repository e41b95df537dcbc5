"""The best things: those than which no other one is better."""

from barelybetter.books import Book
from barelybetter.ends import surely
from barelybetter.kinds import contrary
from barelybetter.rings import is_possible, refuse_ring


def best_of(scale):
    """Return the best things of a Scale, ascending."""
    things = scale.things()
    return [x for x in things if not any([scale.is_better(y, x) for y in things])]


def surely_best(book):
    """Return the things that are among the best for all worths that fit, ascending."""
    sure, things = surely(book), book.things()
    return [x for x in things if all([(y, x, False) in sure for y in things if y != x])]


def possibly_best(book):
    """Return the things that are among the best for some worths that fit, ascending."""
    sure, things = surely(book), book.things()
    return [x for x in things if not any([(y, x, True) in sure for y in things])]


def best_sets(book):
    """Return all lists of the best things that some worths that fit have, ascending."""
    refuse_ring(book)
    if len(book.things()) == 0:
        return [[]]
    return sorted([best for best in _parts_of(possibly_best(book)) if _can_be_best(book, best)])


def _parts_of(things):
    """Return all lists of some of the things, in their order."""
    parts = [[]]
    for thing in things:
        parts = parts + [part + [thing] for part in parts]
    return parts


def _can_be_best(book, best):
    """Return whether just these things are the best ones for some worths that fit."""
    below = [(x, y, False) for y in best for x in book.things() if x != y]
    others = [z for z in book.things() if z not in best]
    # What is not among the best is worth less by more than a step than the thing that is worth most.
    return any([_may_say(book, below + [(leader, z, True) for z in others]) for leader in best])


def _may_say(book, answers):
    """Return whether a book is possible with these answers, too."""
    if any([contrary(answer) in book for answer in answers]):
        return False
    return is_possible(Book(book.things(), book.answers() + answers))
