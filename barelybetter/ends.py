"""What is sure in a book: how far two things are apart, which answers follow, and why."""

from barelybetter.books import Book
from barelybetter.heaviest import heaviest_weights
from barelybetter.kinds import pairs_among
from barelybetter.layers import fewest_walk
from barelybetter.rings import refuse_ring
from barelybetter.walks import is_walk, things_through, weight_of


def apart(book, x, y):
    """Return the least and the greatest that x can be worth more than y, in steps."""
    weights = heaviest_weights(book)
    return (_end_of(weights.get((x, y)), 1), _end_of(weights.get((y, x)), -1))


def is_sure(book, answer):
    """Return whether an answer is so for all worths that fit."""
    return is_told(heaviest_weights(book), answer)


def why(book, answer):
    """Return the least of the walks of the fewest answers that make an answer sure, or None."""
    refuse_ring(book)
    ends, steps = _need_of(answer)
    return fewest_walk(book, ends, steps)


def is_why(book, answer, thing):
    """Return whether any value is a walk of answers of a book that makes an answer sure."""
    refuse_ring(book)
    if not is_walk(book, thing) or len(thing) == 0:
        return False
    ends, steps = _need_of(answer)
    things = things_through(thing)
    return (things[0], things[-1]) == ends and weight_of(thing)[0] >= steps


def surely(book):
    """Return the Book with all sure answers."""
    weights = heaviest_weights(book)
    answers = [(x, y, truth) for x, y in pairs_among(book.things()) for truth in (False, True)]
    return Book(book.things(), [answer for answer in answers if is_told(weights, answer)])


def open_pairs(book):
    """Return the pairs about which no answer is sure, ascending."""
    return surely(book).untold()


def follow(book, answer):
    """Return the answers that are sure with an answer more, and not without it, ascending."""
    ahead = surely(book)
    return (surely(book.put(answer)) - ahead).answers()


def is_told(weights, answer):
    """Return whether the greatest weights of walks make an answer sure."""
    ends, steps = _need_of(answer)
    return ends in weights and weights[ends][0] >= steps


def _end_of(weight, sign):
    """Return an end of a difference: what the greatest weight of a walk says of it."""
    if weight is None:
        return None
    steps, betters = weight
    return (sign * steps, betters == 0)


def _need_of(answer):
    """Return the ends and the least steps of a walk that makes an answer sure."""
    x, y, truth = answer
    if truth:
        return ((x, y), 1)
    return ((y, x), -1)
