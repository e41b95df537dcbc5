"""Grids: sets of pairs of things as single integers, so that many tables can be told apart and gone through quickly.

Things stand here by their places among all of them, ascending. The rows of some betters are a list with an integer
for each place: its bits tell the places than which this one is better. A grid is the integer of all rows, the row
of the last place first: its bits tell pairs, the lowest one the least pair.
"""


def rows_of(things, betters):
    """Return the rows of some betters among ascending things."""
    places = {thing: place for place, thing in enumerate(things)}
    rows = [0 for _ in things]
    for x, y in betters:
        rows[places[x]] = rows[places[x]] | (1 << places[y])
    return rows


def rows_in(grid, many):
    """Return the rows of a grid of so many things."""
    row = (1 << many) - 1
    return [grid >> (place * many) & row for place in range(many)]


def grid_of(rows):
    """Return the grid of some rows."""
    grid = 0
    for row in rows[::-1]:
        grid = grid << len(rows) | row
    return grid


def grid_with(things, pairs):
    """Return the grid of some pairs of ascending things."""
    return grid_of(rows_of(things, pairs))


def told_rows(book):
    """Return the rows of the pairs that a book has answers about, and those of the betters among them."""
    if "told" not in book.kept:
        pairs = [(x, y) for x, y, _ in book]
        betters = [(x, y) for x, y, truth in book if truth]
        book.kept["told"] = (rows_of(book.things(), pairs), rows_of(book.things(), betters))
    return book.kept["told"]


def told_grid(book):
    """Return the grid of the pairs that a book has answers about."""
    if "told grid" not in book.kept:
        book.kept["told grid"] = grid_of(told_rows(book)[0])
    return book.kept["told grid"]


def bit_places(grid):
    """Return the places of the bits of a grid, ascending."""
    found = []
    while grid:
        low = grid & -grid
        found.append(low.bit_length() - 1)
        grid = grid ^ low
    return found


def count_of(grid):
    """Return how many bits a grid has."""
    return f"{grid:b}".count("1")


def pairs_in(things, grid):
    """Return the pairs that a grid tells of ascending things, ascending."""
    many = len(things)
    return [(things[bit // many], things[bit % many]) for bit in bit_places(grid)]


def turns_by_grid(book, word, first_of, turns, most):
    """Return for each grid to which single turns lead from the first one those turns; None for more grids than most.

    The first grid is told by a function of the book, first_of, and what can be turned by a function of rows, turns;
    what the book has answers about is not turned. The book keeps under a word what was found, not to be changed.
    """
    more = word + ", more than"
    if word not in book.kept and book.kept.get(more, 0) < most:
        found = _gather(first_of(book), len(book.things()), told_grid(book), turns, most)
        if found is None:
            book.kept[more] = most
        else:
            book.kept[word] = found
    if word not in book.kept or len(book.kept[word]) > most:
        return None
    return book.kept[word]


def _gather(first, many, told, turns, most):
    """Return for each grid to which single turns lead from the first one those turns, or None for more than most."""
    found, waiting = {first: 0}, [first]
    while waiting:
        grid = waiting.pop()
        left = turns(rows_in(grid, many)) & ~told
        found[grid] = left
        while left:
            turned = grid ^ (left & -left)
            left = left & (left - 1)
            if turned not in found:
                if len(found) == most:
                    return None
                found[turned] = 0
                waiting.append(turned)
    return found


def have_no_pattern(rows):
    """Return whether rows have none of the patterns, so that they are those of a table."""
    # Without "two" of each two rows one is within the other one, so that their order is that of integers.
    ascending = sorted(rows)
    if any([low & high != low for low, high in zip(ascending, ascending[1:])]):
        return False
    for row in sorted(set(rows)):
        inside = [other for place, other in enumerate(rows) if row >> place & 1]
        outside = [other for place, other in enumerate(rows) if not row >> place & 1]
        # With "three" a thing inside is better than one than which a thing outside is not.
        if inside and max(inside) > min(outside):
            return False
    return True


def turns_of(rows):
    """Return the grid of the pairs that can be turned alone, so that the rows of a table stay those of a table.

    Things are put in classes, the best one first, by what they are better than, and then by what is better than
    them; each class is better than all classes from some place on, and a next one from there or from farther on.
    In this staircase just a corner can be turned: all pairs of the two classes that meet there.
    """
    groups, depths = _groups_of(rows)
    firsts, lasts, uppers, lowers = {}, {}, {}, {}
    for side, depth, cell in _cells_of(groups, depths):
        firsts.setdefault(side, cell)
        lasts[side] = cell
        uppers.setdefault(depth, cell)
        lowers[depth] = cell
    found = 0
    for side in range(len(groups)):
        # The first class of a group comes to be better than the last one than which the group is not.
        found = found | _product(firsts[side], lowers[side], len(rows))
        if side + 1 in uppers:
            # Its last class comes to be not better than the first one than which just the groups up to here are.
            found = found | _product(lasts[side], uppers[side + 1], len(rows))
    return found & ~_diagonal(len(rows))


def _groups_of(rows):
    """Return the places, as bits, that have the same row, the longest row first; and the places by their depth.

    The depth of a place tells how many of these groups, the first ones, are better than it.
    """
    groups = {}
    for place, row in enumerate(rows):
        groups[row] = groups.get(row, 0) | 1 << place
    found, depths, above = [], [], (1 << len(rows)) - 1
    for row in sorted(groups, reverse=True):
        found.append(groups[row])
        depths.append(above & ~row)
        above = row
    return (found, depths)


def _cells_of(groups, depths):
    """Return the classes, the best one first: tuples of the number of a group, a depth, and the places as bits."""
    found, depth = [], 0
    for side, group in enumerate(groups):
        while group:
            cell = group & depths[depth]
            if cell:
                found.append((side, depth, cell))
            group = group & ~cell
            # A group that comes later stands nowhere less deep.
            if group:
                depth = depth + 1
    return found


def _product(firsts, seconds, many):
    """Return the grid of all pairs of one of the first places and one of the second places."""
    found = 0
    for place in bit_places(firsts):
        found = found | seconds << (place * many)
    return found


def _diagonal(many):
    """Return the grid with the bits of each place and itself."""
    return ((1 << many * (many + 1)) - 1) // ((1 << many + 1) - 1)
