"""Books: some things, and answers about pairs of them."""

from barelybetter.errors import Clash, NoAnswer, NoPair, NoThing, Wrong
from barelybetter.kinds import (
    are_answers, are_names, contrary, first_stranger, is_answer, is_pair, mirrored, pair_of, pairs_among)


class Book:
    """Some things, and answers about them, no two of which contradict each other."""

    def __init__(self, things, answers=()):
        if not are_names(things):
            raise Wrong(0)
        if not are_answers(answers):
            raise Wrong(1)
        stranger = first_stranger(things, [pair_of(answer) for answer in answers])
        if stranger is not None:
            raise NoThing(stranger)
        truths = {}
        for answer in answers:
            pair, truth = pair_of(answer), answer[2]
            if truths.get(pair, truth) != truth:
                raise Clash(pair)
            truths[pair] = truth
        self._things = sorted(things)
        self._truths = truths
        self._answers = [(x, y, truths[x, y]) for x, y in sorted(truths)]
        # What functions worked out for this Book, under a word for each: it never changes, so that this holds for good.
        self.kept = {}

    def things(self):
        """Return the things, ascending."""
        return list(self._things)

    def answers(self):
        """Return the answers, ascending."""
        return list(self._answers)

    def untold(self):
        """Return the pairs about which there is no answer, ascending."""
        return [pair for pair in pairs_among(self._things) if pair not in self._truths]

    def put(self, answer):
        """Return the Book with an answer more."""
        if not is_answer(answer):
            raise Wrong(0)
        stranger = first_stranger(self._things, [pair_of(answer)])
        if stranger is not None:
            raise NoThing(stranger)
        if contrary(answer) in self:
            raise Clash(pair_of(answer))
        if answer in self:
            return known_book(self._things, self._answers)
        return known_book(self._things, sorted(self._answers + [answer]))

    def out(self, answer):
        """Return the Book without one of its answers."""
        if answer not in self:
            raise NoAnswer(answer)
        return known_book(self._things, [other for other in self._answers if other != answer])

    def only(self, things):
        """Return the Book of some of the things and the answers between them."""
        chosen = {thing: True for thing in things}
        answers = [answer for answer in self._answers if answer[0] in chosen and answer[1] in chosen]
        return known_book(sorted(things), answers)

    def renamed(self, names):
        """Return the Book with other names for its things."""
        answers = [(names[x], names[y], truth) for x, y, truth in self._answers]
        return Book([names[thing] for thing in self._things], answers)

    def within(self, other):
        """Return whether all things and answers stand in the other Book, too."""
        return len(set(self._things) - set(other._things)) == 0 and len(self - other) == 0

    def __len__(self):
        return len(self._answers)

    def __contains__(self, x):
        return is_answer(x) and self._truths.get(pair_of(x)) == x[2]

    def __iter__(self):
        return iter(self._answers)

    def __getitem__(self, at):
        if not is_pair(at) or at[0] not in self._things or at[1] not in self._things:
            raise NoPair(at)
        return self._truths.get(at)

    def __eq__(self, other):
        return isinstance(other, Book) and self._things == other._things and self._answers == other._answers

    def __or__(self, other):
        # The answers of other ascend, so the first pair that they clash about is the least one.
        return Book(sorted(set(self._things) | set(other._things)), self._answers + other._answers)

    def __and__(self, other):
        things = sorted(set(self._things) & set(other._things))
        return Book(things, [answer for answer in self._answers if answer in other])

    def __sub__(self, other):
        return Book(self._things, [answer for answer in self._answers if answer not in other])

    def __invert__(self):
        return Book(self._things, [mirrored(answer) for answer in self._answers])


def known_book(things, answers):
    """Return the Book of ascending lists, which are not changed later, of things and of answers that do not clash.

    Nothing is checked, so that it is made sooner than by what anybody may pass in.
    """
    book = Book(())
    book._things = things
    book._truths = {(x, y): truth for x, y, truth in answers}
    book._answers = answers
    return book
