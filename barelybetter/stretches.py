"""Stretches: worths with a step of their own for each thing, told by two integers, low and high.

All answers together say which ends of stretches are above which. An end stands here by its place: that of a thing
for its low end, and behind these, in the same order, the high ends.
"""

from barelybetter.books import known_book
from barelybetter.errors import NoTable, Ring, TooMany, Unfit
from barelybetter.grids import grid_of, grid_with, pairs_in, rows_of, told_grid, told_rows, turns_by_grid
from barelybetter.kinds import is_integer, pairs_among
from barelybetter.layers import least_round, outs_of
from barelybetter.tables import least_two
from barelybetter.walks import is_walk, things_through


def stretch_ring(book):
    """Return the least of the stretch rings of the fewest answers, or None."""
    if _is_free(book):
        return None
    return least_round(_outs_by_truth(book))


def is_stretch_ring(book, thing):
    """Return whether any value is a stretch ring of a book."""
    if not is_walk(book, thing) or len(thing) == 0:
        return False
    things = things_through(thing)
    if things[0] != things[-1]:
        return False
    return not any([not ahead[2] and not behind[2] for ahead, behind in zip(thing, thing[1:] + thing[:1])])


def fit_stretches(book, thing):
    """Return whether any value is a dict of stretches that fit a book."""
    if not isinstance(thing, dict) or len(thing) != len(book.things()):
        return False
    if not all([name in thing and _is_stretch(thing[name]) for name in book.things()]):
        return False
    return all([(thing[x][0] > thing[y][1]) == truth for x, y, truth in book.answers()])


def plain_stretches(book):
    """Return the dict of the least stretches that fit a book, none of them below 0."""
    _refuse_stretch_ring(book)
    things = book.things()
    many = len(things)
    rows = _below_of(book)
    ends, rising = [0 for _ in rows], True
    # Without a stretch ring no end rises by a way round.
    while rising:
        raised = [max([ends[end] + gap for end, gap in below], default=0) for below in rows]
        rising, ends = raised != ends, raised
    return {thing: (ends[place], ends[many + place]) for place, thing in enumerate(things)}


def stretch_surely(book):
    """Return the Book with all answers that all stretches that fit say."""
    _refuse_stretch_ring(book)
    things, reach = book.things(), _reach_of(book)
    places = {thing: place for place, thing in enumerate(things)}
    found = []
    for x, y in pairs_among(things):
        if reach[places[x]] >> (len(things) + places[y]) & 1:
            found.append((x, y, True))
        elif reach[len(things) + places[y]] >> places[x] & 1:
            found.append((x, y, False))
    return known_book(things, found)


def walls_of_stretches(book, betters):
    """Return the pairs that, put in or taken out of betters, leave those of stretches that fit a book, ascending."""
    _refuse_stretch_ring(book)
    things = book.things()
    rows = rows_of(things, betters)
    pattern = least_two(things, rows)
    if pattern is not None:
        raise NoTable(pattern)
    told, said = told_rows(book)
    if [row & bits for row, bits in zip(rows, told)] != said:
        raise Unfit()
    return pairs_in(things, _turns_of(rows) & ~told_grid(book))


def pins_of_stretches(book, betters):
    """Return the answers that betters say about these walls, ascending."""
    return [(x, y, (x, y) in betters) for x, y in walls_of_stretches(book, betters)]


def count_stretches(book, *, most=400):
    """Return how many sets of betters some stretches that fit a book tell."""
    _refuse_stretch_ring(book)
    # Single turned answers lead from each set of betters to all others [12].
    found = turns_by_grid(book, "stretches by grids", _plain_grid, _turns_of, most)
    if found is None:
        raise TooMany(most)
    return len(found)


def _plain_grid(book):
    """Return the grid of the betters that plain_stretches tells."""
    ends, things = plain_stretches(book), book.things()
    return grid_with(things, [(x, y) for x, y in pairs_among(things) if ends[x][0] > ends[y][1]])


def _refuse_stretch_ring(book):
    """Raise Ring with the least stretch ring of a book, if there is one."""
    ring = stretch_ring(book)
    if ring is not None:
        raise Ring(ring)


def _is_stretch(thing):
    """Return whether any value is a tuple of a low and a high end."""
    if not isinstance(thing, tuple) or len(thing) != 2 or not is_integer(thing[0]) or not is_integer(thing[1]):
        return False
    return thing[0] <= thing[1]


def _below_of(book):
    """Return for each end the ends that it is above, or as high as: tuples (end, by how much more at least)."""
    things = book.things()
    places = {thing: place for place, thing in enumerate(things)}
    found = [[] for _ in things] + [[(place, 0)] for place in range(len(things))]
    for x, y, truth in book:
        low, high = places[x], len(things) + places[y]
        if truth:
            found[low].append((high, 1))
        else:
            found[high].append((low, 0))
    return found


def _reach_of(book):
    """Return for each end the ends that it has to be above, or as high as, whatever stretches fit, as bits."""
    if "reach" not in book.kept:
        reach = [sum([1 << low for low, _ in below]) for below in _below_of(book)]
        for middle in range(len(reach)):
            reach = [bits | reach[middle] if bits >> middle & 1 else bits for bits in reach]
        book.kept["reach"] = reach
    return book.kept["reach"]


def _is_free(book):
    """Return whether a book has no stretch ring."""
    # Each way round leads from a low end to a high one that is less: an end would have to be above itself.
    return not any([bits >> end & 1 for end, bits in enumerate(_reach_of(book))])


def _outs_by_truth(book):
    """Return what leads on from each thing, behind an answer with False and behind one with True, for least_round.

    Behind False no other False leads on. All answers are of no steps, so that each way round counts.
    """
    found = []
    for out in outs_of(book):
        rows = [(2 * end + (1 if answer[2] else 0), 0, answer) for end, _, answer in out]
        found.append([row for row in rows if row[2][2]])
        found.append(rows)
    return found


def _turns_of(rows):
    """Return the grid of the pairs that can be turned alone, so that rows have no pattern "two" as before.

    Of such rows each one is within the next longer one.
    """
    lengths = sorted(set(rows))
    whole, found = (1 << len(rows)) - 1, []
    for place, row in enumerate(rows):
        at = lengths.index(row)
        shorter = lengths[at - 1] if at > 0 else 0
        longer = lengths[at + 1] if at + 1 < len(lengths) else whole
        found.append((row & ~shorter | longer & ~row) & ~(1 << place))
    return grid_of(found)
