"""Walks: lists of answers, each next one leading on from the thing to which the one ahead leads."""

from barelybetter.kinds import ends_of


def is_walk(book, thing):
    """Return whether any value is a walk of answers of a book."""
    if not isinstance(thing, list) or not all([answer in book for answer in thing]):
        return False
    ends = [ends_of(answer) for answer in thing]
    return all([ahead[1] == behind[0] for ahead, behind in zip(ends, ends[1:])])


def weight_of(walk):
    """Return the steps and the betters of a walk."""
    betters = len([answer for answer in walk if answer[2]])
    return (betters - (len(walk) - betters), betters)


def things_through(walk):
    """Return the things through which a walk leads that is not empty."""
    return [ends_of(walk[0])[0]] + [ends_of(answer)[1] for answer in walk]
