"""Integers, names, pairs and answers: what is one, and what it tells."""

LONGEST_NAME = 8


def is_integer(thing):
    """Return whether any value is an integer; True and False are none."""
    return isinstance(thing, int) and not isinstance(thing, bool)


def is_name(thing):
    """Return whether any value is a name."""
    if not isinstance(thing, str) or not 1 <= len(thing) <= LONGEST_NAME:
        return False
    return thing.isascii() and thing.isalpha() and thing.islower()


def is_pair(thing):
    """Return whether any value is a pair of any names."""
    if not isinstance(thing, tuple) or len(thing) != 2:
        return False
    return is_name(thing[0]) and is_name(thing[1]) and thing[0] != thing[1]


def is_answer(thing):
    """Return whether any value is an answer about any names."""
    if not isinstance(thing, tuple) or len(thing) != 3:
        return False
    return is_pair(thing[:2]) and isinstance(thing[2], bool)


def are_names(thing):
    """Return whether any value is a list or a tuple of different names."""
    if not isinstance(thing, (list, tuple)):
        return False
    return all([is_name(name) for name in thing]) and len(set(thing)) == len(thing)


def are_pairs(thing):
    """Return whether any value is a list or a tuple of pairs."""
    return isinstance(thing, (list, tuple)) and all([is_pair(pair) for pair in thing])


def are_answers(thing):
    """Return whether any value is a list or a tuple of answers."""
    return isinstance(thing, (list, tuple)) and all([is_answer(answer) for answer in thing])


def first_stranger(things, pairs):
    """Return the first name in some pairs that is none of the things, or None."""
    known = set(things)
    for pair in pairs:
        for name in pair:
            if name not in known:
                return name
    return None


def pairs_among(things):
    """Return the pairs of some different things, ascending if the things are."""
    return [(x, y) for x in things for y in things if x != y]


def pair_of(answer):
    """Return the pair that an answer is about."""
    x, y, _ = answer
    return (x, y)


def contrary(answer):
    """Return the answer that contradicts this one."""
    x, y, truth = answer
    return (x, y, not truth)


def mirrored(answer):
    """Return the answer with its two things exchanged."""
    x, y, truth = answer
    return (y, x, truth)


def ends_of(answer):
    """Return the thing from which and the thing to which an answer leads."""
    x, y, truth = answer
    if truth:
        return (x, y)
    return (y, x)
