"""Ways from one table that fits a book to another one, by single turned answers."""

from barelybetter.grids import bit_places, have_no_pattern, rows_in
from barelybetter.tables import Table
from barelybetter.walls import refuse_unfit, walls_of


def way_between(book, one, other):
    """Return a way from one table to the other one."""
    way = [one]
    turns = first_turns(book, one, other)
    while turns:
        way.append(way[-1].turned(turns[0]))
        turns = first_turns(book, way[-1], other)
    return way


def is_way(book, one, other, thing):
    """Return whether any value is a way from one table to the other one."""
    refuse_unfit(book, [one, other])
    if not isinstance(thing, list) or not all([isinstance(table, Table) and table.fits(book) for table in thing]):
        return False
    if len(thing) == 0 or thing[0] != one or thing[-1] != other:
        return False
    turns = [ahead ^ behind for ahead, behind in zip(thing, thing[1:])]
    if not all([len(turn) == 1 for turn in turns]):
        return False
    return len(set([turn[0] for turn in turns])) == len(turns)


def count_ways(book, one, other):
    """Return how many ways there are from one table to the other one."""
    refuse_unfit(book, [one, other])
    goal = other.grid()
    turns = [1 << bit for bit in bit_places(one.grid() ^ goal)]
    counts = {one.grid(): 1}
    for _ in turns:
        counts = _one_turn_on(counts, turns, goal, len(one.things()))
    return counts[goal]


def first_turns(book, one, other):
    """Return the walls of one table about which the other one says otherwise, ascending."""
    refuse_unfit(book, [one, other])
    return [pair for pair in walls_of(book, one) if one[pair] != other[pair]]


def _one_turn_on(counts, turns, goal, many):
    """Return how many ways lead to the grids that are one turn nearer to the goal."""
    found = {}
    for grid in counts:
        for bit in turns:
            nearer = grid ^ bit
            if (grid ^ goal) & bit and (nearer in found or have_no_pattern(rows_in(nearer, many))):
                found[nearer] = found.get(nearer, 0) + counts[grid]
    return found
