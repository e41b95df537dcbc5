"""The greatest weights of walks, and walks by their numbers of answers; a book keeps what was worked out for it."""

from barelybetter.kinds import ends_of

# In the rows below, of things by their places: there is no walk. It is less than what any walk has.
NOWHERE = -1000000000000


def weights_of(book):
    """Return the greatest weights of walks by their ends, or None if there is a ring."""
    if not book.keeps("weights"):
        book.keep("weights", _weights_of(book))
    return book.kept("weights")


def least_ring(book):
    """Return the least of the rings of the fewest answers; there has to be one."""
    if not book.keeps("ring"):
        book.keep("ring", _least_ring(book))
    return book.kept("ring")


def fewest_walk(book, ends, steps):
    """Return the least of the walks of the fewest answers with these ends and at least so many steps, or None."""
    layers = _layers_of(book)
    start, last = _places_in(book, ends)
    for many, layer in enumerate(layers):
        if layer[start][last] >= steps:
            return _least_walk(book, layers[:many], (start, last), steps)
    return None


def least_walk(book, many, ends, steps):
    """Return the least walk of just so many answers with these ends and at least so many steps; there has to be one."""
    return _least_walk(book, _layers_of(book)[:many], _places_in(book, ends), steps)


def _weights_of(book):
    """Return the greatest weights of walks by their ends, or None if there is a ring."""
    things = book.things()
    # A weight is told by one integer, steps * size + betters: no walk here has so many betters.
    size = 2 * len(things) + 1
    rows = [_first_row(out, len(things), size) for out in _outs_of(book)]
    for middle in range(len(things)):
        # What rows tell now are walks through things ahead of this one: it is the last one of a ring, if it has any.
        if rows[middle][middle] >= 0:
            return None
        rows = [_through(row, row[middle], rows[middle]) for row in rows]
    found = {(x, y): (code // size, code % size) for x, row in zip(things, rows)
             for y, code in zip(things, row) if code != NOWHERE}
    for thing in things:
        found[thing, thing] = (0, 0)
    return found


def _first_row(out, many, size):
    """Return what the answers alone that lead from a thing tell of the weights of walks from it."""
    row = [NOWHERE] * many
    for end, step, _ in out:
        row[end] = max(row[end], size + 1 if step == 1 else -size)
    return row


def _least_ring(book):
    """Return the least of the rings of the fewest answers; there has to be one."""
    layers, rounds = [_first_layer(book)], []
    while len(rounds) == 0:
        layers.append(_next_layer(_outs_of(book), layers[-1]))
        rounds = [(place, place) for place, row in enumerate(layers[-1]) if row[place] >= 0]
    return min([_least_walk(book, layers[:-1], ends, 0) for ends in rounds])


def _layers_of(book):
    """Return for each number of answers from 0 to that of the things the most steps of walks of so many answers.

    No longer walks are needed: where there is no ring, a walk loses steps by each way round.
    """
    if not book.keeps("layers"):
        layers = [_first_layer(book)]
        for _ in book.things():
            layers.append(_next_layer(_outs_of(book), layers[-1]))
        book.keep("layers", layers)
    return book.kept("layers")


def _first_layer(book):
    """Return the most steps of walks of no answers, from each place and to each one."""
    things = book.things()
    return [[0 if x == y else NOWHERE for y in things] for x in things]


def _next_layer(outs, layer):
    """Return the most steps of walks with one answer more than those of a layer."""
    found = []
    for out in outs:
        row = [NOWHERE] * len(layer)
        for end, step, _ in out:
            row = _through(row, step, layer[end])
        found.append(row)
    return found


def _through(row, head, tails):
    """Return a row with what comes of a head and these tails, where it is more."""
    if head == NOWHERE:
        return row
    return [old if tail == NOWHERE or old >= head + tail else head + tail for old, tail in zip(row, tails)]


def _least_walk(book, layers, ends, steps):
    """Return the least walk of as many answers as there are layers, with at least so many steps."""
    here, last = ends
    outs = _outs_of(book)
    walk = []
    for layer in reversed(list(layers)):
        here, step, answer = _least_answer(outs[here], layer, last, steps)
        walk.append(answer)
        steps = steps - step
    return walk


def _least_answer(out, layer, last, steps):
    """Return of the least answer that can begin a walk, which goes on as a layer tells, what outs tell of it."""
    for end, step, answer in out:
        if layer[end][last] != NOWHERE and step + layer[end][last] >= steps:
            return (end, step, answer)
    return None


def _outs_of(book):
    """Return for each place the answers that lead from it, ascending: (place to which, steps, answer)."""
    if not book.keeps("outs"):
        places = {thing: place for place, thing in enumerate(book.things())}
        outs = [[] for _ in places]
        for answer in book:
            start, end = ends_of(answer)
            outs[places[start]].append((places[end], 1 if answer[2] else -1, answer))
        book.keep("outs", outs)
    return book.kept("outs")


def _places_in(book, ends):
    """Return the places of the ends of a walk."""
    things = book.things()
    return (things.index(ends[0]), things.index(ends[1]))
