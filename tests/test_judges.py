"""[3], [4], [5], [10], [11], [13], [76] Two judges with unlike steps."""

import itertools
import random
import time
import unittest
from fractions import Fraction

from barelybetter.books import Book
from barelybetter.errors import BarelyError, NoRatio, Unlike, Wrong
from barelybetter.judges import Judges
from barelybetter.rings import is_possible, ring_of
from barelybetter.ends import surely
from tests import odd, oracle
from tests.odd import caught

AB, ABC, FOUR = ["a", "b"], ["a", "b", "c"], ["a", "b", "c", "d"]
SIX = ["a", "b", "c", "d", "e", "f"]
FINE = Book(ABC, [("a", "b", True), ("b", "c", True)])
BOTH = Judges(FINE, Book(ABC, [("a", "c", False)]))
A_B, B_A = ("a", "b", True), ("b", "a", True)


def marks_of(one, other):
    return [(side, answer) for side, book in enumerate((one, other)) for answer in book.answers()]


def ends(mark):
    x, y, truth = mark[1]
    return (x, y) if truth else (y, x)


def weight(walk):
    return tuple(sum(1 if answer[2] else -1 for at, answer in walk if at == side) for side in (0, 1))


def is_round(marks, walk):
    """Tell by the words of the document whether a list is a round."""
    return len(walk) > 0 and all(mark in marks for mark in walk) and all(
        ends(ahead)[1] == ends(behind)[0] for ahead, behind in zip(walk, walk[1:] + walk[:1]))


def simple_weights(one, other):
    """Return the weights of all rounds that lead through no thing twice."""
    found, marks = set(), marks_of(one, other)

    def go(start, here, passed, p, q):
        for mark in marks:
            begin, end = ends(mark)
            step = 1 if mark[1][2] else -1
            weights = (p + step, q) if mark[0] == 0 else (p, q + step)
            if begin == here and end == start:
                found.add(weights)
            elif begin == here and end > start and end not in passed:
                go(start, end, passed | {end}, *weights)

    for thing in one.things():
        go(thing, thing, {thing}, 0, 0)
    return found


def ends_by_rounds(one, other):
    """Return the ends of the steps that are possible, by all simple rounds, or None if none are; None as no end."""
    low, high = Fraction(0), None
    for p, q in simple_weights(one, other):
        if p >= 0 and q >= 0:
            return None
        if q < 0 < p:
            low = max(low, Fraction(p, -q))
        if p < 0 < q:
            high = Fraction(-p, q) if high is None else min(high, Fraction(-p, q))
    return None if high is not None and low >= high else (low, high)


def least_round(one, other, a, b, most):
    """Return the least of the rounds of the fewest marks that bar a / b, by trying all, or None."""
    marks = marks_of(one, other)
    walks = [([], thing, thing) for thing in one.things()]
    for _ in range(most):
        walks = [(walk + [mark], start, ends(mark)[1]) for walk, start, here in walks for mark in marks
                 if ends(mark)[0] == here]
        found = [walk for walk, start, here in walks if start == here and bars(walk, a, b)]
        if found:
            return min(found)
    return None


def bars(walk, a, b):
    p, q = weight(walk)
    return p * b + q * a >= 0


def fitting_worths(one, other, steps, top):
    """Return all worths up to a top one that fit both books with these steps."""
    things = one.things()
    return [dict(zip(things, worths)) for worths in itertools.product(range(top + 1), repeat=len(things))
            if all((dict(zip(things, worths))[x] - dict(zip(things, worths))[y] > step) == truth
                   for book, step in zip((one, other), steps) for x, y, truth in book.answers())]


def drawn_pairs(things, many, seed, most=None):
    """Return pairs of Books of some things, of one list of worths and unlike steps, or with some other answers."""
    chance = random.Random(seed)
    pairs = [(x, y) for x in things for y in things if x != y]
    found = []
    for number in range(many):
        worth = {thing: chance.randint(0, 20) for thing in things}
        books = []
        for step in (chance.randint(1, 12), chance.randint(1, 12)):
            told = chance.sample(pairs, chance.randint(0, min(len(pairs), most or len(pairs))))
            lies = (number % 3 == 2) * chance.randint(0, 2)
            books.append(Book(things, [(x, y, (worth[x] - worth[y] > step) != (at < lies))
                                       for at, (x, y) in enumerate(told)]))
        found.append(tuple(books))
    return found


def as_told(ends_found):
    """Return ends as limits tells them."""
    low, high = ends_found
    return ((low.numerator, low.denominator), None if high is None else (high.numerator, high.denominator))


class MakingTest(unittest.TestCase):

    def test_wrong(self):
        book = Book(ABC)
        for value in odd.values():
            if not isinstance(value, Book):
                for given, place in (((value, book), 0), ((book, value), 1), ((value, value), 0), ((value, Book(AB)), 0)):
                    error = caught(Judges, *given)
                    self.assertIs(type(error), Wrong)
                    self.assertEqual(error.place, place)

    def test_unlike(self):
        for other in (Book(AB), Book([]), Book(FOUR), Book(["a", "b", "d"]), Book(AB, [A_B, B_A])):
            self.assertIs(type(caught(Judges, FINE, other)), Unlike)
            self.assertIs(type(caught(Judges, other, FINE)), Unlike)
        self.assertEqual(Judges(Book(["b", "a"]), Book(["a", "b"])).limits(), ((0, 1), None))


class LimitsTest(unittest.TestCase):

    def test_no_things_and_no_answers(self):
        for things in ([], ["a"], AB, SIX):
            judges = Judges(Book(things), Book(things))
            self.assertEqual((judges.limits(), judges.rounds()), (((0, 1), None), (None, None)))
            self.assertIsNone(judges.round_at(7, 3))
            self.assertEqual([one.worths() for one in judges.scales_at(2, 4)], [dict.fromkeys(things, 0)] * 2)
            self.assertEqual([one.step for one in judges.scales_at(2, 4)], [4 * max(1, len(things)), 2 * max(1, len(things))])
            self.assertEqual((judges.surely(0).answers(), judges.surely(1).answers()), ([], []))

    def test_one_book_as_both_judges(self):
        judges = Judges(FINE, FINE)
        self.assertEqual(judges.limits(), ((0, 1), None))
        full = surely(FINE)
        self.assertEqual(judges.surely(0).answers(), judges.surely(1).answers())
        self.assertEqual(Judges(full, full).limits(), ((0, 1), None))
        same = Book(ABC, [("a", "b", False), ("b", "a", False), ("b", "c", False), ("c", "b", False), ("a", "c", True)])
        self.assertEqual(Judges(same, same).limits(), ((1, 2), (2, 1)))

    def test_lower_and_upper_end(self):
        self.assertEqual(BOTH.limits(), ((2, 1), None))
        turned = Judges(Book(ABC, [("a", "c", False)]), FINE)
        self.assertEqual(turned.limits(), ((0, 1), (1, 2)))
        self.assertEqual((turned.rounds()[0], weight(turned.rounds()[1])), (None, (-1, 2)))
        self.assertEqual(weight(BOTH.rounds()[0]), (2, -1))
        # Ends as near to nothing, and as far from it, as three things can have them.
        one, other = Book(ABC, [("a", "b", False), ("b", "c", False)]), Book(ABC, [("a", "c", True)])
        self.assertEqual((Judges(one, other).limits(), Judges(other, one).limits()), (((0, 1), (2, 1)), ((1, 2), None)))
        self.assertEqual((weight(Judges(one, other).rounds()[1]), weight(Judges(other, one).rounds()[0])), ((-2, 1), (1, -2)))

    def test_against_all_rounds(self):
        rows = drawn_pairs(AB, 40, 161) + drawn_pairs(ABC, 80, 162) + drawn_pairs(FOUR, 60, 163)
        rows += drawn_pairs(SIX, 20, 164, 6)
        seen = set()
        for one, other in rows:
            judges, found = Judges(one, other), ends_by_rounds(one, other)
            if found is None:
                self.hold_no_ratio(judges, one, other)
                seen.add("none")
                continue
            self.assertEqual(judges.limits(), as_told(found))
            self.hold_ends(one.things(), judges.limits())
            self.hold_rounds(judges, one, other)
            seen.add((found[0] > 0, found[1] is not None))
        self.assertEqual(seen, {"none", (False, False), (True, False), (False, True), (True, True)})

    def hold_ends(self, things, limits):
        """[11]"""
        for end in limits:
            if end not in (None, (0, 1)):
                self.assertLessEqual(sum(end), len(things))
                self.assertGreater(min(end), 0)

    def hold_rounds(self, judges, one, other):
        (low, high), marks = judges.limits(), marks_of(one, other)
        first, second = judges.rounds()
        self.assertEqual((first is None, second is None), (low == (0, 1), high is None))
        if first is not None:
            p, q = weight(first)
            self.assertTrue(is_round(marks, first))
            self.assertTrue(p > 0 > q and Fraction(p, -q) == Fraction(*low))
        if second is not None:
            p, q = weight(second)
            self.assertTrue(is_round(marks, second))
            self.assertTrue(p < 0 < q and Fraction(-p, q) == Fraction(*high))

    def hold_no_ratio(self, judges, one, other):
        answer = (*one.things()[:2], True)
        for call, given in ((judges.limits, ()), (judges.rounds, ()), (judges.surely, (0,)), (judges.surely, (1,)),
                            (judges.is_sure, (0, answer)), (judges.is_sure, (1, answer))):
            error = caught(call, *given)
            self.assertIs(type(error), NoRatio)
            self.hold_barred(error.barred, one, other)

    def hold_barred(self, barred, one, other):
        marks = marks_of(one, other)
        self.assertTrue(all(is_round(marks, walk) for walk in barred))
        weights = [weight(walk) for walk in barred]
        if len(barred) == 1:
            self.assertGreaterEqual(min(weights[0]), 0)
            return
        (p, q), (r, s) = sorted(weights, reverse=True)
        # One of them bars all up to an end, the other one all from an end on that is not above it.
        self.assertTrue(p > 0 > q and r < 0 < s)
        self.assertGreaterEqual(Fraction(p, -q), Fraction(-r, s))

    def test_one_round_bars_all_or_two_do(self):
        never = Judges(Book(AB, [A_B, B_A]), Book(AB))
        self.assertEqual(caught(never.limits).barred, [[(0, A_B), (0, B_A)]])
        apart = Judges(Book(AB, [A_B]), Book(AB, [B_A]))
        self.assertEqual(caught(apart.limits).barred, [[(0, A_B), (1, B_A)]])
        # The step of other has to be above 2, and below 1/2.
        one = Book(SIX, [("a", "b", True), ("b", "c", True), ("d", "f", False)])
        other = Book(SIX, [("a", "c", False), ("d", "e", True), ("e", "f", True)])
        barred = caught(Judges(one, other).limits).barred
        self.assertEqual(sorted(weight(walk) for walk in barred), [(-1, 2), (2, -1)])
        # The ends meet: above 1, and below 1.
        one = Book(FOUR, [("a", "b", True), ("c", "d", False)])
        other = Book(FOUR, [("a", "b", False), ("c", "d", True)])
        barred = caught(Judges(one, other).limits).barred
        self.assertEqual(sorted(weight(walk) for walk in barred), [(-1, 1), (1, -1)])

    def test_a_book_that_is_not_possible(self):
        worse = Book(ABC, [A_B, B_A])
        for judges in (Judges(worse, FINE), Judges(FINE, worse), Judges(worse, worse)):
            for call in (judges.limits, judges.rounds, lambda: judges.surely(0), lambda: judges.scales_at(1, 1)):
                self.assertIs(type(caught(call)), NoRatio)

    def test_what_is_raised_is_new(self):
        judges = Judges(Book(AB, [A_B]), Book(AB, [B_A]))
        caught(judges.limits).barred[0].clear()
        caught(judges.limits).barred.clear()
        self.assertEqual(caught(judges.limits).barred, [[(0, A_B), (1, B_A)]])


class RoundAtTest(unittest.TestCase):

    def test_at_the_end_and_beyond_it(self):
        walk = [(0, ("a", "b", True)), (0, ("b", "c", True)), (1, ("a", "c", False))]
        for a, b in ((2, 1), (1, 1), (4, 2), (1, 100), (10 ** 40 * 2, 10 ** 40), (10 ** 40 * 2 - 1, 10 ** 40)):
            self.assertEqual(BOTH.round_at(a, b), walk)
            self.assertIs(BOTH.is_round_at(a, b, walk), True)
            self.assertEqual(caught(BOTH.scales_at, a, b).barred, [walk])
        for a, b in ((3, 1), (5, 2), (10 ** 40 * 2 + 1, 10 ** 40), (10 ** 40, 1)):
            self.assertIsNone(BOTH.round_at(a, b))
            self.assertIs(BOTH.is_round_at(a, b, walk), False)

    def test_against_all_rounds(self):
        for one, other in drawn_pairs(AB, 30, 165) + drawn_pairs(ABC, 40, 166, 4) + drawn_pairs(FOUR, 12, 167, 5):
            judges = Judges(one, other)
            for a, b in ((1, 1), (1, 2), (2, 1), (3, 3), (1, 9), (7, 3)):
                least = least_round(one, other, a, b, len(one.things()))
                self.assertEqual(judges.round_at(a, b), least)
                if least is not None:
                    self.assertIs(judges.is_round_at(a, b, least), True)
                    self.assertIs(judges.is_round_at(a, b, least * 2), True)
                    for by in range(len(least)):
                        self.assertIs(judges.is_round_at(a, b, least[by:] + least[:by]), True)

    def test_of_one_judge_alone_it_is_a_ring(self):
        for book in oracle.all_books(ABC)[::5]:
            found = Judges(book, Book(ABC)).round_at(5, 3)
            self.assertEqual(found, None if is_possible(book) else [(0, answer) for answer in ring_of(book)])
            found = Judges(Book(ABC), book).round_at(5, 3)
            self.assertEqual(found, None if is_possible(book) else [(1, answer) for answer in ring_of(book)])

    def test_is_round_at(self):
        judges = Judges(Book(ABC, [A_B, ("b", "c", True)]), Book(ABC, [B_A, ("a", "c", False)]))
        good = [(0, A_B), (1, B_A)]
        self.assertIs(judges.is_round_at(1, 1, good), True)
        for bad in ([], good[:1], good[::-1][:1], tuple(good), [(1, A_B), (0, B_A)], [(0, A_B), (0, B_A)], [A_B, B_A],
                    [(False, A_B), (True, B_A)], [(0, A_B), (True, B_A)], [[0, A_B], (1, B_A)], [(0, list(A_B)), (1, B_A)],
                    [(0, A_B, 0), (1, B_A)], [(0, ("a", "b", 1)), (1, B_A)], [(2, A_B), (1, B_A)], [(-1, B_A), (0, A_B)],
                    good + [(0, A_B)], [(0, A_B), (0, ("b", "c", True))], [(0, A_B), ("1", B_A)], [(None, A_B), (1, B_A)]):
            self.assertIs(judges.is_round_at(1, 1, bad), False, bad)
        longer = [(0, A_B), (0, ("b", "c", True)), (1, ("a", "c", False))]
        self.assertEqual([judges.is_round_at(a, b, longer) for a, b in ((1, 1), (2, 1), (4, 2), (3, 1), (201, 100))],
                         [True, True, True, False, False])
        self.assertIs(judges.is_round_at(2, 1, longer[1:] + longer[:1]), True)
        self.assertIs(judges.is_round_at(2, 1, longer[::-1]), False)

    def test_any_value(self):
        judges = Judges(Book(AB, [A_B, B_A]), Book(AB, [A_B, B_A]))
        for value in odd.values():
            self.assertIs(judges.is_round_at(1, 1, value), False)
            self.assertIs(judges.is_round_at(1, 1, [value]), False)
            self.assertIs(judges.is_round_at(1, 1, [(0, A_B), (value, B_A)]), value in (0, 1) and isinstance(value, int)
                          and not isinstance(value, bool))
            self.assertIs(judges.is_round_at(1, 1, [(0, A_B), (0, value)]), False)


class ScalesAtTest(unittest.TestCase):

    def test_not_in_lowest_terms(self):
        one, other = BOTH.scales_at(3, 1)
        self.assertEqual((one.worths(), one.step, other.step), ({"a": 8, "b": 4, "c": 0}, 3, 9))
        one, other = BOTH.scales_at(6, 2)
        self.assertEqual((one.worths(), one.step, other.step), ({"a": 14, "b": 7, "c": 0}, 6, 18))
        one, other = BOTH.scales_at(10 ** 30, 1)
        self.assertEqual((one.worths(), one.step, other.step), ({"a": 8, "b": 4, "c": 0}, 3, 3 * 10 ** 30))

    def test_they_fit(self):
        for one, other in drawn_pairs(FOUR, 60, 168) + drawn_pairs(SIX, 20, 169):
            judges = Judges(one, other)
            for a, b in ((1, 1), (2, 3), (3, 2), (5, 1), (1, 7), (40, 20)):
                if judges.round_at(a, b) is None:
                    first, second = judges.scales_at(a, b)
                    self.assertEqual(first.worths(), second.worths())
                    self.assertEqual((first.step, second.step), (b * len(one.things()), a * len(one.things())))
                    self.assertTrue(first.fits(one) and second.fits(other))
                    self.assertEqual(min(first.worths().values()), 0)
                else:
                    self.assertEqual(caught(judges.scales_at, a, b).barred, [judges.round_at(a, b)])

    def test_the_least_worths(self):
        for one, other in drawn_pairs(AB, 20, 170) + drawn_pairs(ABC, 14, 171):
            judges = Judges(one, other)
            many = len(one.things())
            for a, b in ((1, 1), (2, 1), (1, 2)):
                if judges.round_at(a, b) is None:
                    steps = (b * many, a * many)
                    found = fitting_worths(one, other, steps, (many - 1) * (max(steps) + 1))
                    self.assertEqual(judges.scales_at(a, b)[0].worths(), {
                        thing: min(worths[thing] for worths in found) for thing in one.things()})
                else:
                    self.assertEqual(fitting_worths(one, other, (b * many, a * many), 9), [])


class SurelyTest(unittest.TestCase):

    def test_across_both(self):
        self.assertIs(BOTH.is_sure(1, ("a", "b", False)), True)
        self.assertEqual(BOTH.surely(0).answers(), surely(FINE).answers())
        self.assertEqual(BOTH.surely(1).answers(), [(x, y, False) for x, y in Book(ABC).untold()])
        self.assertIs(BOTH.is_sure(0, ("a", "b", False)), False)

    def test_against_rounds_with_the_contrary(self):
        for one, other in drawn_pairs(AB, 20, 172) + drawn_pairs(ABC, 40, 173) + drawn_pairs(FOUR, 20, 174, 6):
            judges = Judges(one, other)
            if ends_by_rounds(one, other) is None:
                continue
            for side, book in enumerate((one, other)):
                sure = [answer for answer in oracle.answers_about(book.things())
                        if answer in book or contrary_bars_all(one, other, side, answer)]
                self.assertEqual(judges.surely(side).answers(), sure)
                self.assertEqual(judges.surely(side).things(), book.things())
                self.assertEqual([answer for answer in oracle.answers_about(book.things())
                                  if judges.is_sure(side, answer)], sure)

    def test_what_a_book_makes_sure_alone_stays_sure(self):
        for one, other in drawn_pairs(SIX, 20, 175):
            judges = Judges(one, other)
            if caught_or_none(judges.limits) is None:
                for side, book in enumerate((one, other)):
                    self.assertIs(surely(book).within(judges.surely(side)), True)

    def test_turned_about_and_with_other_names(self):
        turn = dict(zip(SIX, ["zoo", "d", "b", "yak", "a", "c"]))
        for one, other in drawn_pairs(SIX, 16, 176) + drawn_pairs(FOUR, 16, 177):
            judges, about = Judges(one, other), Judges(~one, ~other)
            names = {thing: turn[thing] for thing in one.things()}
            renamed = Judges(one.renamed(names), other.renamed(names))
            swapped = Judges(other, one)
            if caught_or_none(judges.limits) is not None:
                for same in (about, renamed, swapped):
                    self.assertIs(type(caught(same.limits)), NoRatio)
                continue
            low, high = judges.limits()
            self.assertEqual((about.limits(), renamed.limits()), ((low, high), (low, high)))
            # What is a / b for one is b / a for the other one.
            self.assertEqual(swapped.limits(), ((0, 1) if high is None else high[::-1], None if low == (0, 1) else low[::-1]))
            for side in (0, 1):
                self.assertTrue(about.surely(side) == ~judges.surely(side))
                self.assertTrue(renamed.surely(side) == judges.surely(side).renamed(names))
                self.assertTrue(swapped.surely(1 - side) == judges.surely(side))


def contrary_bars_all(one, other, side, answer):
    more = (answer[0], answer[1], not answer[2])
    if more in (one, other)[side]:
        return False
    if side == 0:
        return ends_by_rounds(one.put(more), other) is None
    return ends_by_rounds(one, other.put(more)) is None


def caught_or_none(call):
    try:
        call()
    except BarelyError as error:
        return error
    return None


class AskingTest(unittest.TestCase):

    def test_results_are_new_and_asking_changes_nothing(self):
        one, other = Book(ABC, [A_B, ("b", "c", True)]), Book(ABC, [("a", "c", False)])
        judges = Judges(one, other)
        told = [repr(judges.limits()), repr(judges.rounds()), judges.surely(1).answers(), judges.round_at(1, 1)]
        judges.rounds()[0].clear()
        judges.round_at(1, 1).clear()
        judges.surely(1).answers().clear()
        judges.scales_at(5, 1)[0].worths().clear()
        caught(judges.scales_at, 1, 1).barred[0].clear()
        self.assertEqual(
            [repr(judges.limits()), repr(judges.rounds()), judges.surely(1).answers(), judges.round_at(1, 1)], told)
        self.assertEqual((one.answers(), other.answers()), ([A_B, ("b", "c", True)], [("a", "c", False)]))
        again = Judges(one, other)
        self.assertEqual([again.surely(1).answers(), repr(again.rounds())], told[2:0:-1])

    def test_quick(self):
        rows = drawn_pairs(SIX, 30, 178) + [(Book(SIX), Book(SIX))]
        start = time.process_time()
        for one, other in rows:
            judges = Judges(one, other)
            for call in (judges.limits, judges.rounds, lambda: judges.surely(0), lambda: judges.scales_at(10 ** 39, 3)):
                caught_or_none(call)
        self.assertLess(time.process_time() - start, 1.5)


if __name__ == "__main__":
    unittest.main()
