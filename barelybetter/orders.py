"""Orders that a table tells: which things are as good as others, levels, and the longest row of betters."""


def as_good(table, x, y):
    """Return whether x is as good as y in a table."""
    betters = _betters_by_thing(table)
    if any([z not in betters[x] for z in betters[y]]):
        return False
    return all([y in betters[z] for z in betters if x in betters[z]])


def ranks_of(table):
    """Return the things in lists of those each of which is as good as the others, the best ones first."""
    found = {}
    # Of each two things one is as good as the other one, so that where this number is the same, each is.
    for thing in table.things():
        lead = len([pair for pair in table if pair[0] == thing]) - len([pair for pair in table if pair[1] == thing])
        found.setdefault(lead, []).append(thing)
    return [found[lead] for lead in sorted(found, reverse=True)]


def levels_of(table):
    """Return the things in lists by the greatest number of betters in a row ahead of them."""
    ahead = {}
    for rank in ranks_of(table):
        for thing in rank:
            ahead[thing] = max([ahead[x] + 1 for x, y in table if y == thing], default=0)
    levels = [[] for _ in range(1 + max(ahead.values(), default=-1))]
    for thing in table.things():
        levels[ahead[thing]].append(thing)
    return levels


def longest_row(table):
    """Return the least of the longest lists of things each of which is better than the next one."""
    # In the table turned about the level of a thing tells how many can stand behind it.
    levels = levels_of(~table)
    row = []
    for level in reversed(list(levels)):
        row.append([thing for thing in level if len(row) == 0 or table[row[-1], thing]][0])
    return row


def _betters_by_thing(table):
    """Return for each thing the things than which it is better."""
    return {x: [y for y in table.things() if x != y and table[x, y]] for x in table.things()}
