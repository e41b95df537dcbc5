"""What is sure in a book: how far two things are apart, which answers follow, and why."""

from barelybetter.books import known_book
from barelybetter.heaviest import heaviest
from barelybetter.kinds import contrary, ends_of
from barelybetter.layers import code_of, code_of_answer, codes_of, fewest_walk, need_of, rows_with, told_by
from barelybetter.rings import refuse_ring
from barelybetter.walks import is_walk, things_through, weight_of


def apart(book, x, y):
    """Return the least and the greatest that x can be worth more than y, in steps."""
    return (_end_of(heaviest(book, x, y), 1), _end_of(heaviest(book, y, x), -1))


def is_sure(book, answer):
    """Return whether an answer is so for all worths that fit."""
    return answer in surely(book)


def why(book, answer):
    """Return the least of the walks of the fewest answers that make an answer sure, or None."""
    refuse_ring(book)
    ends, steps = need_of(answer)
    return fewest_walk(book, ends, steps)


def is_why(book, answer, thing):
    """Return whether any value is a walk of answers of a book that makes an answer sure."""
    refuse_ring(book)
    if not is_walk(book, thing) or len(thing) == 0:
        return False
    ends, steps = need_of(answer)
    things = things_through(thing)
    return (things[0], things[-1]) == ends and weight_of(thing)[0] >= steps


def surely(book):
    """Return the Book with all sure answers."""
    refuse_ring(book)
    if "sure" not in book.kept:
        book.kept["sure"] = known_book(book.things(), sure_answers(book.things(), codes_of(book)))
    return book.kept["sure"]


def open_pairs(book):
    """Return the pairs about which no answer is sure, ascending."""
    return surely(book).untold()


def follow(book, answer):
    """Return the answers that are sure with an answer more, and not without it, ascending."""
    sure = surely(book)
    if answer in sure:
        return []
    more = book.put(answer)
    if contrary(answer) in sure:
        refuse_ring(more)
    codes = codes_with(codes_of(book), book.things(), answer)
    return [told for told in sure_answers(book.things(), codes) if told not in sure]


def sure_answers(things, codes):
    """Return the answers that the codes of the greatest weights of walks make sure, ascending."""
    return told_by(things, codes, code_of(1, 0, len(things)))


def is_told(things, codes, pair):
    """Return whether the codes of the greatest weights of walks make one of both answers about a pair sure."""
    here, there, step = things.index(pair[0]), things.index(pair[1]), code_of(1, 0, len(things))
    return codes[here][there] >= step or codes[there][here] >= -step


def codes_with(codes, things, answer):
    """Return the codes of the greatest weights of walks with an answer more, about a pair that is open."""
    start, end = ends_of(answer)
    return rows_with(codes, things.index(start), things.index(end), code_of_answer(answer, len(things)))


def _end_of(weight, sign):
    """Return an end of a difference: what the greatest weight of a walk says of it."""
    if weight is None:
        return None
    steps, betters = weight
    return (sign * steps, betters == 0)
