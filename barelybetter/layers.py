"""The greatest weights of walks, and walks by their numbers of answers; a book keeps what was worked out for it.

Things stand here by their places among all of them, ascending. What leads from a place is told by a list of
tuples (place to which, steps, answer), ascending by the answers.
"""

from barelybetter.kinds import ends_of

# In rows and columns: there is no walk. It is less than what any walk has, by whatever steps walks are counted.
NOWHERE = -1000000000000000000000000000000000000000000000000000000000000


def outs_of(book):
    """Return for each place what leads from it."""
    if "outs" not in book.kept:
        places = {thing: place for place, thing in enumerate(book.things())}
        outs = [[] for _ in places]
        for answer in book:
            start, end = ends_of(answer)
            outs[places[start]].append((places[end], 1 if answer[2] else -1, answer))
        book.kept["outs"] = outs
    return book.kept["outs"]


def code_of(steps, betters, many):
    """Return the one integer that tells a weight of a walk among so many things; the greater weight has more."""
    # No walk that is asked for here has more betters than there are things.
    return steps * (2 * many + 1) + betters


def weight_of_code(code, many):
    """Return the weight that a code tells, of a walk among so many things."""
    size = code_of(1, 0, many)
    return (code // size, code % size)


def codes_of(book):
    """Return rows of the codes of the greatest weights of walks from each place to each one, or None for a ring."""
    if "codes" not in book.kept:
        book.kept["codes"] = greatest_rows(first_codes(book.things(), book.answers()))
    return book.kept["codes"]


def weights_of(book):
    """Return the greatest weights of walks by their ends, of a possible book."""
    if "weights" not in book.kept:
        book.kept["weights"] = _weights_of(book)
    return book.kept["weights"]


def least_ring(book):
    """Return the least of the rings of the fewest answers; there has to be one."""
    if "ring" not in book.kept:
        book.kept["ring"] = least_round(outs_of(book))
    return book.kept["ring"]


def fewest_walk(book, ends, steps):
    """Return the least of the walks of the fewest answers with these unlike ends and at least so many steps, or None.

    The book has to be possible.
    """
    start, last = _places_in(book, ends)
    if codes_of(book)[start][last] < code_of(steps, 0, len(codes_of(book))):
        return None
    many = 1
    while _columns_of(book, last, many)[many][start] < steps:
        many = many + 1
    return _walk_along(outs_of(book), _columns_of(book, last, many)[:many], start, steps)


def least_walk(book, many, ends, steps):
    """Return the least walk of just so many answers with these ends and at least so many steps; there has to be one."""
    start, last = _places_in(book, ends)
    return _walk_along(outs_of(book), _columns_of(book, last, many)[:many], start, steps)


def first_codes(things, answers):
    """Return rows of what answers about things alone tell of the codes of walks from each place to each one."""
    many = len(things)
    places = {thing: place for place, thing in enumerate(things)}
    rows = [[NOWHERE] * many for _ in things]
    for answer in answers:
        start, end = ends_of(answer)
        row = rows[places[start]]
        row[places[end]] = max(row[places[end]], code_of_answer(answer, many))
    return rows


def greatest_rows(rows):
    """Return the most that walks have from each place to each one, or None if one leads round with 0 or more.

    Rows tell it of walks of one answer; what they tell may be codes of weights, or steps of any size.
    """
    for middle in range(len(rows)):
        # What rows tell now are walks through places ahead of this one: it is the last one of a ring, if it has any.
        if rows[middle][middle] >= 0:
            return None
        tails = rows[middle]
        rows = [_through(row, row[middle], tails) for row in rows]
    return [row[:place] + [0] + row[place + 1:] for place, row in enumerate(rows)]


def rows_with(rows, start, end, code):
    """Return greatest rows with an answer more from start to end, with which no ring comes."""
    # No heavier walk goes through the answer twice.
    return [row if row[start] == NOWHERE else _through(row, row[start] + code, rows[end]) for row in rows]


def code_of_answer(answer, many):
    """Return the code of the weight of an answer alone, among so many things."""
    if answer[2]:
        return code_of(1, 1, many)
    return code_of(-1, 0, many)


def need_of(answer):
    """Return the ends, and the least steps, of a walk that makes an answer sure."""
    x, y, truth = answer
    if truth:
        return ((x, y), 1)
    return ((y, x), -1)


def told_by(things, rows, step):
    """Return the answers about things that greatest rows make sure, ascending; a better leads on by so great a step."""
    found = []
    for here, x in enumerate(things):
        for there, y in enumerate(things):
            if here != there and rows[here][there] >= step:
                found.append((x, y, True))
            elif here != there and rows[there][here] >= -step:
                found.append((x, y, False))
    return found


def least_round(outs):
    """Return the least of the walks of the fewest answers from a place to itself with 0 steps or more, or None."""
    columns = [[_first_column(len(outs), place)] for place in range(len(outs))]
    # Such a walk of the fewest answers goes through no place twice.
    for _ in outs:
        columns = [last + [_next_column(outs, last[-1])] for last in columns]
        found = [_walk_along(outs, last[:-1], place, 0) for place, last in enumerate(columns) if last[-1][place] >= 0]
        if found:
            return min(found)
    return None


def _weights_of(book):
    """Return the greatest weights of walks by their ends, of a possible book."""
    things = book.things()
    return {(x, y): weight_of_code(code, len(things)) for x, row in zip(things, codes_of(book))
            for y, code in zip(things, row) if code != NOWHERE}


def _columns_of(book, last, many):
    """Return columns for each number of answers up to this one, perhaps beyond it: the most steps to last."""
    if "columns" not in book.kept:
        book.kept["columns"] = {}
    found = book.kept["columns"]
    if last not in found:
        found[last] = [_first_column(len(book.things()), last)]
    columns = found[last]
    while len(columns) <= many:
        columns.append(_next_column(outs_of(book), columns[-1]))
    return columns


def _first_column(many, last):
    """Return the most steps of walks of no answers from each of so many places to the last one."""
    return [0 if place == last else NOWHERE for place in range(many)]


def _next_column(outs, column):
    """Return the most steps of walks with one answer more than those of a column."""
    found = []
    for out in outs:
        found.append(max([column[end] + step for end, step, _ in out if column[end] != NOWHERE], default=NOWHERE))
    return found


def _through(row, head, tails):
    """Return a row with what comes of a head and these tails, where it is more."""
    if head == NOWHERE:
        return row
    return [old if tail == NOWHERE or old >= head + tail else head + tail for old, tail in zip(row, tails)]


def _walk_along(outs, columns, here, steps):
    """Return the least walk of as many answers as there are columns, with at least so many steps."""
    walk = []
    for column in reversed(list(columns)):
        here, step, answer = _least_answer(outs[here], column, steps)
        walk.append(answer)
        steps = steps - step
    return walk


def _least_answer(out, column, steps):
    """Return of the least answer that can begin a walk, which goes on as a column tells, what outs tell of it."""
    for end, step, answer in out:
        if column[end] != NOWHERE and step + column[end] >= steps:
            return (end, step, answer)
    return None


def _places_in(book, ends):
    """Return the places of the ends of a walk."""
    things = book.things()
    return (things.index(ends[0]), things.index(ends[1]))
