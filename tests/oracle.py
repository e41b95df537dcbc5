"""The same by other means: what tests hold against the program, by trying all worths and all walks."""

import functools
import itertools
import random

from barelybetter.books import Book


@functools.lru_cache(maxsize=None)
def all_tables(things):
    """Return the betters of all tables of a tuple of things, found by trying worths."""
    step = max(1, len(things))
    span = (len(things) - 1) * (step + 1) + 1
    found = set()
    for worths in itertools.product(range(max(1, span)), repeat=len(things)):
        worth = dict(zip(things, worths))
        found.add(frozenset((x, y) for x in things for y in things if worth[x] - worth[y] > step))
    return sorted(found, key=sorted)


def fitting(book):
    """Return the betters of all tables that fit a book."""
    return [table for table in all_tables(tuple(book.things()))
            if all(((x, y) in table) == truth for x, y, truth in book.answers())]


def best_lists(book):
    """Return the different lists of the best things of the tables that fit a book, ascending."""
    return sorted({tuple(x for x in book.things() if not any((y, x) in table for y in book.things()))
                   for table in fitting(book)})


def patterns(things, betters):
    """Return all patterns of some pairs by the words of the document, ascending."""
    found = []
    for x, y, z, w in itertools.product(things, repeat=4):
        if (x, y) in betters and (z, w) in betters and (x, w) not in betters and (z, y) not in betters:
            found.append(("two", x, y, z, w))
        if (x, y) in betters and (y, z) in betters and (x, w) not in betters and (w, z) not in betters:
            found.append(("three", x, y, z, w))
    return sorted(found)


def walls(book, betters):
    """Return the walls of a table, the betters of which are told, in a book, ascending."""
    tables = set(fitting(book))
    return [(x, y) for x in book.things() for y in book.things() if betters ^ {(x, y)} in tables]


def answers_about(things):
    """Return all answers about some things, ascending."""
    return [(x, y, truth) for x in things for y in things if x != y for truth in (False, True)]


def sure_answers(book):
    """Return the answers that all tables that fit a book say."""
    tables = fitting(book)
    return [(x, y, truth) for x, y, truth in answers_about(book.things())
            if all(((x, y) in table) == truth for table in tables)]


def walks_from(book, start, most):
    """Return all walks from a thing of at most so many answers, with the things to which they lead."""
    rows = [([], start)]
    layer = rows
    for _ in range(most):
        layer = [(walk + [(x, y, truth)], y if truth else x) for walk, here in layer
                 for x, y, truth in book.answers() if here == (x if truth else y)]
        rows = rows + layer
    return rows


def weight(walk):
    """Return the steps and the betters of a walk."""
    return (sum(1 if truth else -1 for _, _, truth in walk), sum(truth for _, _, truth in walk))


def walks_between(book, x, y, most):
    return [walk for walk, end in walks_from(book, x, most) if end == y]


def least_ring(book, most):
    """Return the least of the rings of the fewest answers, by trying all, or None."""
    rings = [walk for thing in book.things() for walk in walks_between(book, thing, thing, most)
             if walk and weight(walk)[0] >= 0]
    return min(rings, key=lambda ring: (len(ring), ring), default=None)


def heaviest_walk(book, x, y, most):
    """Return the least of the heaviest walks, by trying all, or None."""
    walks = walks_between(book, x, y, most)
    if not walks:
        return None
    greatest = max(weight(walk) for walk in walks)
    return min(walk for walk in walks if weight(walk) == greatest)


def least_why(book, answer, most):
    """Return the least of the walks of the fewest answers that make an answer sure, by trying all, or None."""
    x, y, truth = answer
    start, end, need = (x, y, 1) if truth else (y, x, -1)
    walks = [walk for walk in walks_between(book, start, end, most) if weight(walk)[0] >= need]
    return min(walks, key=lambda walk: (len(walk), walk), default=None)


def drawn_worths(things, chance):
    """Return worths that tell, with a step of 4, tables of all kinds."""
    reach = chance.choice((4, 8, 12, 20))
    return {thing: chance.randint(0, reach) for thing in things}


def some_tables(things, many, seed):
    """Return the betters of some tables, as sets."""
    chance = random.Random(seed)
    drawn = [drawn_worths(things, chance) for _ in range(many)]
    return [frozenset((x, y) for x in things for y in things if worth[x] - worth[y] > 4) for worth in drawn]


def some_pairs(things, many, seed):
    """Return lists of different pairs of things, with patterns and without."""
    chance = random.Random(seed)
    pairs = [(x, y) for x in things for y in things if x != y]
    found = []
    for number, betters in enumerate(some_tables(things, many, seed)):
        turned = set(chance.sample(pairs, min(len(pairs), number % 4)))
        row = sorted(betters ^ turned)
        chance.shuffle(row)
        found.append(row)
    return found


def books_of(things, betters, many, seed):
    """Return Books that a table fits, the betters of which are told, with few answers and with many."""
    chance = random.Random(seed)
    answers = [(x, y, (x, y) in betters) for x in things for y in things if x != y]
    return [Book(things, chance.sample(answers, chance.randint(0, len(answers)))) for _ in range(many)]


def all_books(things):
    """Return all Books of some things."""
    pairs = [(x, y) for x in things for y in things if x != y]
    return [Book(things, [(x, y, truth) for (x, y), truth in zip(pairs, truths) if truth is not None])
            for truths in itertools.product((None, False, True), repeat=len(pairs))]


def some_books(things, many, seed):
    """Return Books of some things, possible and not, with few answers and with many."""
    chance = random.Random(seed)
    books = []
    for number in range(many):
        worth = {thing: chance.randint(0, 12) for thing in things}
        pairs = [(x, y) for x in things for y in things if x != y]
        told = chance.sample(pairs, chance.randint(0, len(pairs)))
        # Each other book has a few answers that are not those of the worths.
        lies = number % 2 * chance.randint(0, 3)
        books.append(Book(things, [(x, y, (worth[x] - worth[y] > 4) != (at < lies)) for at, (x, y) in enumerate(told)]))
    return books
