"""[3], [4], [7], [9], [10], [12], [13], [80] Stretches."""

import functools
import itertools
import random
import time
import unittest

from barelybetter.books import Book
from barelybetter.errors import NoTable, Ring, TooMany, Unfit
from barelybetter.rings import is_possible, ring_of
from barelybetter.stretches import (
    count_stretches, fit_stretches, is_stretch_ring, pins_of_stretches, plain_stretches, stretch_ring,
    stretch_surely, walls_of_stretches)
from tests import odd, oracle
from tests.odd import caught

AB, ABC, FOUR = ["a", "b"], ["a", "b", "c"], ["a", "b", "c", "d"]
SIX = ["a", "b", "c", "d", "e", "f"]
A_B, B_A, B_C, A_D, D_C = ("a", "b", True), ("b", "a", True), ("b", "c", True), ("a", "d", False), ("d", "c", False)
BESIDE = Book(FOUR, [A_B, B_C, A_D, D_C])
CALLS = ((plain_stretches, ()), (stretch_surely, ()), (walls_of_stretches, ([],)), (pins_of_stretches, ([],)),
         (count_stretches, ()))


@functools.lru_cache(maxsize=None)
def all_stretches(things):
    """Return all stretches of a tuple of things with ends from 0 to one less than their number, with their betters."""
    ends = [(low, high) for low in range(len(things)) for high in range(low, len(things))]
    found = []
    for chosen in itertools.product(ends, repeat=len(things)):
        told = dict(zip(things, chosen))
        found.append((told, frozenset((x, y) for x in things for y in things if told[x][0] > told[y][1])))
    return found


def fitting(book):
    """Return the stretches that fit a book, with their betters, by trying all."""
    return [(told, betters) for told, betters in all_stretches(tuple(book.things()))
            if all(((x, y) in betters) == truth for x, y, truth in book.answers())]


def fitting_betters(book):
    return sorted({betters for _, betters in fitting(book)}, key=sorted)


def is_stretch_ring_by_words(book, walk):
    if not walk or any(answer not in book.answers() for answer in walk):
        return False
    ends = [(x, y) if truth else (y, x) for x, y, truth in walk]
    rows = list(zip(range(len(walk)), range(1, len(walk)))) + [(len(walk) - 1, 0)]
    return all(ends[at][1] == ends[behind][0] and (walk[at][2] or walk[behind][2]) for at, behind in rows)


def least_stretch_ring(book, most):
    """Return the least of the stretch rings of the fewest answers, by trying all, or None."""
    for many in range(2, most + 1):
        rings = [walk for thing in book.things() for walk, end in oracle.walks_from(book, thing, many)
                 if end == thing and len(walk) == many and is_stretch_ring_by_words(book, walk)]
        if rings:
            return min(rings)
    return None


def small_books():
    return oracle.all_books(AB) + oracle.all_books(ABC)[::3] + oracle.some_books(FOUR, 40, 181)


def books_of_stretches(things, many, seed):
    """Return Books of answers that stretches tell, with their betters, and now and then with another answer."""
    chance = random.Random(seed)
    pairs = [(x, y) for x in things for y in things if x != y]
    found = []
    for _ in range(many):
        ends = {thing: sorted(chance.randint(0, 9) for _ in range(2)) for thing in things}
        betters = [pair for pair in pairs if ends[pair[0]][0] > ends[pair[1]][1]]
        told = chance.sample(pairs, chance.randint(0, len(pairs)))
        found.append((Book(things, [(*pair, pair in betters) for pair in told]), betters))
    return found


class RingsTest(unittest.TestCase):

    def test_examples(self):
        self.assertIs(is_possible(BESIDE), False)
        self.assertEqual((len(ring_of(BESIDE)), stretch_ring(BESIDE)), (4, None))
        self.assertIs(is_stretch_ring(BESIDE, ring_of(BESIDE)), False)
        # The walk round with the nots apart is one.
        book = Book(FOUR, [A_B, ("c", "b", False), ("c", "d", True), ("a", "d", False)])
        self.assertEqual(stretch_ring(book), [A_B, ("c", "b", False), ("c", "d", True), ("a", "d", False)])

    def test_against_all_walks(self):
        rings = 0
        for book in oracle.all_books(AB) + oracle.all_books(ABC)[::5]:
            self.assertEqual(stretch_ring(book), least_stretch_ring(book, 6), book.answers())
        for book in oracle.some_books(FOUR, 40, 182):
            ring = stretch_ring(book)
            if ring is not None:
                rings += 1
                self.assertEqual(ring, least_stretch_ring(book, len(ring)))
        self.assertGreater(rings, 4)

    def test_a_ring_just_where_no_stretches_fit(self):
        for book in small_books():
            self.assertEqual(stretch_ring(book) is None, len(fitting(book)) > 0)
            # Whatever worths fit are stretches, too.
            self.assertTrue(stretch_ring(book) is None or not is_possible(book))

    def test_is_stretch_ring(self):
        ring = [A_B, ("c", "b", False), ("c", "d", True), ("a", "d", False)]
        book = Book(FOUR, ring + [("d", "a", True), ("d", "b", False), B_A])
        for good in (ring, ring[1:] + ring[:1], ring[3:] + ring[:3], ring * 2, [A_B, B_A], ring + [A_B, B_A],
                     ring[:3] + [("d", "a", True)]):
            self.assertIs(is_stretch_ring(book, good), True, good)
        for bad in ([], ring[:3], tuple(ring), ring[::-1], [A_B], [A_B, A_B], ring + [A_B], [list(A_B), B_A],
                    [("a", "b", 1), B_A], None, [("d", "b", False), ("a", "d", False), A_B]):
            self.assertIs(is_stretch_ring(book, bad), False, bad)
        # Two nots, one behind the other, in the middle, and at the end and the beginning.
        book = Book(FOUR, [A_B, B_C, ("c", "d", True), ("b", "d", False), ("a", "b", True), ("b", "c", True), A_D, D_C])
        self.assertIs(is_stretch_ring(book, [A_B, B_C, D_C, A_D]), False)
        self.assertIs(is_stretch_ring(book, [A_D, A_B, B_C, D_C]), False)
        self.assertIs(is_stretch_ring(book, [D_C, A_D, A_B, B_C]), False)
        self.assertIs(is_stretch_ring(book, [A_B, B_C, ("c", "d", True), A_D]), True)

    def test_is_stretch_ring_of_any_value(self):
        book = Book(AB, [A_B, B_A])
        for value in odd.values():
            self.assertIs(is_stretch_ring(book, value), False)
            self.assertIs(is_stretch_ring(book, [value]), False)
            self.assertIs(is_stretch_ring(book, [A_B, value]), False)

    def test_ring_is_raised(self):
        book = Book(ABC, [A_B, B_A, ("a", "c", True)])
        for call, given in CALLS:
            error = caught(call, book, *given)
            self.assertIs(type(error), Ring)
            self.assertEqual(error.ring, [A_B, B_A])
        self.assertIs(type(caught(count_stretches, book, most=1)), Ring)
        # Ahead of a pattern, and of what does not fit.
        for betters in ([("a", "b"), ("b", "a")], [("c", "a")]):
            self.assertIs(type(caught(walls_of_stretches, book, betters)), Ring)
            self.assertIs(type(caught(pins_of_stretches, book, betters)), Ring)


class FittingTest(unittest.TestCase):

    def test_no_things_and_one_thing(self):
        self.assertEqual((plain_stretches(Book([])), plain_stretches(Book(["a"]))), ({}, {"a": (0, 0)}))
        self.assertEqual((count_stretches(Book([]), most=1), count_stretches(Book(["a"]), most=1)), (1, 1))
        self.assertEqual((walls_of_stretches(Book([]), []), pins_of_stretches(Book(["a"]), [])), ([], []))
        self.assertEqual([stretch_surely(Book(things)).things() for things in ([], ["a"])], [[], ["a"]])
        self.assertEqual((stretch_ring(Book([])), stretch_ring(Book(["a"]))), (None, None))
        self.assertIs(fit_stretches(Book([]), {}), True)
        self.assertIs(fit_stretches(Book(["a"]), {"a": (-3, 5)}), True)

    def test_the_least_stretches(self):
        for book in small_books():
            found = fitting(book)
            if not found:
                continue
            plain = plain_stretches(book)
            self.assertEqual(plain, {thing: tuple(min(told[thing][at] for told, _ in found) for at in (0, 1))
                                     for thing in book.things()})
            self.assertEqual(list(plain), book.things())
            self.assertIs(fit_stretches(book, plain), True)

    def test_six_things(self):
        for book, _ in books_of_stretches(SIX, 40, 183):
            plain = plain_stretches(book)
            self.assertIs(fit_stretches(book, plain), True)
            for thing in SIX:
                for at in (0, 1):
                    # One less in one place does not fit.
                    ends = list(plain[thing])
                    ends[at] -= 1
                    less = {**plain, thing: tuple(ends)}
                    self.assertIs(ends[at] >= 0 and fit_stretches(book, less), False)

    def test_fit_stretches(self):
        book = Book(ABC, [A_B, ("b", "c", False)])
        self.assertIs(fit_stretches(book, {"a": (3, 3), "b": (0, 2), "c": (0, 0)}), True)
        self.assertIs(fit_stretches(book, {"c": (0, 0), "b": (0, 2), "a": (3, 10 ** 30)}), True)
        good = {"a": (1, 1), "b": (0, 0), "c": (0, 0)}
        self.assertIs(fit_stretches(book, good), True)
        for name, told in (("a", (0, 1)), ("a", (2, 1)), ("a", [1, 1]), ("a", (1,)), ("a", (1, 1, 1)), ("a", (True, 1)),
                           ("a", (1, True)), ("a", ("1", 1)), ("a", None), ("b", (0, 1)), ("b", (1, 1)), ("d", (0, 0)),
                           (1, (0, 0)), (None, (0, 0))):
            self.assertIs(fit_stretches(book, {**good, name: told}), False, (name, told))
        for bad in ({}, {"a": (1, 1), "b": (0, 0)}, {"a": (1, 1), "b": (0, 0), "d": (0, 0)}, list(good.items()), None):
            self.assertIs(fit_stretches(book, bad), False)
        # Just as high is not above.
        self.assertIs(fit_stretches(Book(AB, [("a", "b", False)]), {"a": (5, 7), "b": (-2, 5)}), True)
        self.assertIs(fit_stretches(Book(AB, [("a", "b", False)]), {"a": (6, 7), "b": (-2, 5)}), False)
        # Of a book that is not possible none fit.
        self.assertIs(fit_stretches(Book(AB, [A_B, B_A]), {"a": (1, 1), "b": (0, 0)}), False)

    def test_fit_stretches_of_any_value(self):
        for value in odd.values():
            self.assertIs(fit_stretches(Book(["a"]), value), False)
            self.assertIs(fit_stretches(Book(["a"]), {"a": value}), value == (1, 2))
            self.assertIs(fit_stretches(Book(["a"]), {"a": (0, value)}), type(value) is int and value >= 0)
            self.assertIs(fit_stretches(Book(["a"]), {"a": (value, 0)}), type(value) is int and value <= 0)
            self.assertIs(fit_stretches(Book([]), value), value == {} and isinstance(value, dict))

    def test_surely(self):
        for book in small_books():
            found = fitting_betters(book)
            if found:
                sure = [(x, y, truth) for x, y, truth in oracle.answers_about(book.things())
                        if all(((x, y) in betters) == truth for betters in found)]
                self.assertEqual(stretch_surely(book).answers(), sure)
                self.assertEqual(stretch_surely(book).things(), book.things())

    def test_stretches_say_less_than_worths(self):
        book = Book(FOUR, [A_B, B_C])
        self.assertEqual(stretch_surely(book)["a", "d"], None)
        self.assertEqual(stretch_surely(book).answers(), [
            A_B, ("a", "c", True), ("b", "a", False), B_C, ("c", "a", False), ("c", "b", False)])


class WallsTest(unittest.TestCase):

    def test_against_all_stretches(self):
        rows = [(book, set(fitting_betters(book))) for book in small_books()[::2]]
        for book, found in rows:
            for betters in sorted(found, key=sorted)[::7]:
                walls = [pair for pair in Book(book.things()).untold() if betters ^ {pair} in found]
                self.assertEqual(walls_of_stretches(book, list(betters)), walls)
                self.assertEqual(pins_of_stretches(book, sorted(betters)), [(*pair, pair in betters) for pair in walls])

    def test_pins_pin_down(self):
        """[7], [12]"""
        for book in small_books()[::3]:
            found = fitting_betters(book)
            for betters in found[::9]:
                pins = pins_of_stretches(book, list(betters))
                others = [other for other in found if all(((x, y) in other) == truth for x, y, truth in pins)]
                self.assertEqual(others, [betters])
                for pin in pins:
                    rest = [(x, y, (x, y) in betters) for x, y in Book(book.things()).untold() if (x, y) != pin[:2]]
                    self.assertEqual(len([other for other in found if all(((x, y) in other) == truth
                                                                          for x, y, truth in rest)]), 2)

    def test_open_just_where_it_is_a_wall(self):
        """[8], [12]"""
        for book in small_books()[::3]:
            found = fitting_betters(book)
            if found:
                walls = {pair for betters in found for pair in walls_of_stretches(book, list(betters))}
                self.assertEqual(sorted(walls), stretch_surely(book).untold())

    def test_six_things(self):
        for book, betters in books_of_stretches(SIX, 20, 184):
            rows = [pair for pair in book.untold() if not twos(SIX, set(betters) ^ {pair})]
            self.assertEqual(walls_of_stretches(book, betters), rows)

    def test_least_pattern_then_unfit(self):
        book = Book(FOUR, [("a", "c", True)])
        for betters in oracle.some_pairs(FOUR, 60, 185):
            patterns = twos(FOUR, set(betters))
            kept = list(betters)
            for call in (walls_of_stretches, pins_of_stretches):
                if patterns:
                    error = caught(call, book, betters)
                    self.assertIs(type(error), NoTable)
                    self.assertEqual(error.pattern, patterns[0])
                elif ("a", "c") not in betters:
                    self.assertIs(type(caught(call, book, betters)), Unfit)
                else:
                    call(book, betters)
            self.assertEqual(betters, kept)
        # "three" is no hindrance here.
        three = [("a", "b"), ("a", "c"), ("b", "c")]
        self.assertEqual(walls_of_stretches(Book(FOUR), three)[0], ("a", "b"))
        self.assertIs(type(caught(walls_of_stretches, Book(FOUR, [("a", "d", True)]), three)), Unfit)


def twos(things, betters):
    return [pattern for pattern in oracle.patterns(things, betters) if pattern[0] == "two"]


class CountTest(unittest.TestCase):

    def test_all(self):
        self.assertEqual([count_stretches(Book(SIX[:many])) for many in range(5)], [1, 1, 3, 19, 207])
        for book in small_books():
            found = fitting_betters(book)
            if found:
                self.assertEqual(count_stretches(book), len(found))

    def test_most(self):
        book = Book(ABC, [("a", "b", False)])
        many = count_stretches(book)
        for most in (many - 1, many, 1, many + 1, 400, 2):
            if most < many:
                error = caught(count_stretches, book, most=most)
                self.assertIs(type(error), TooMany)
                self.assertEqual(error.most, most)
            else:
                self.assertEqual(count_stretches(book, most=most), many)
        self.assertEqual(caught(count_stretches, Book(SIX)).most, 400)
        self.assertEqual(caught(count_stretches, Book(FOUR), most=206).most, 206)
        self.assertEqual(count_stretches(Book(FOUR), most=207), 207)

    def test_straight_ways(self):
        """[6], [12]"""
        for book in small_books()[::5]:
            found = set(fitting_betters(book))
            for one in sorted(found, key=sorted)[::11]:
                for other in sorted(found, key=sorted)[::13]:
                    if one != other:
                        turns = [pair for pair in walls_of_stretches(book, list(one)) if pair in one ^ other]
                        self.assertTrue(turns)


class OverAllTest(unittest.TestCase):

    def test_betters_of_stretches_have_just_no_pattern_two(self):
        """[9], [80]"""
        pairs = Book(ABC).untold()
        told = {betters for _, betters in all_stretches(tuple(ABC))}
        for many in range(len(pairs) + 1):
            for betters in itertools.combinations(pairs, many):
                self.assertEqual(frozenset(betters) in told, twos(ABC, set(betters)) == [])
                if twos(ABC, set(betters)):
                    self.assertEqual(caught(walls_of_stretches, Book(ABC), list(betters)).pattern, twos(ABC, set(betters))[0])
                else:
                    self.assertEqual(plain_stretches(Book(ABC, [(*pair, pair in betters) for pair in pairs])), {
                        thing: tuple(min(ends[thing][at] for ends, found in all_stretches(tuple(ABC))
                                         if found == frozenset(betters)) for at in (0, 1)) for thing in ABC})

    def test_turned_about_and_with_other_names(self):
        """[10], [12], [13]"""
        turn = dict(zip(SIX, ["zoo", "d", "b", "yak", "a", "c"]))
        for book, betters in books_of_stretches(SIX, 16, 186):
            about, other = ~book, book.renamed(turn)
            self.assertTrue(stretch_surely(about) == ~stretch_surely(book))
            self.assertTrue(stretch_surely(other) == stretch_surely(book).renamed(turn))
            self.assertIs(fit_stretches(about, {
                thing: (-high, -low) for thing, (low, high) in plain_stretches(book).items()}), True)
            self.assertEqual(plain_stretches(other), {turn[thing]: ends for thing, ends in plain_stretches(book).items()})
            walls = walls_of_stretches(book, betters)
            self.assertEqual(walls_of_stretches(about, [(y, x) for x, y in betters]), sorted((y, x) for x, y in walls))
            self.assertEqual(walls_of_stretches(other, [(turn[x], turn[y]) for x, y in betters]),
                             sorted((turn[x], turn[y]) for x, y in walls))
            counts = [count_or_many(one) for one in (book, about, other)]
            self.assertEqual(counts, counts[:1] * 3)
        for book in small_books()[::4]:
            rings = [stretch_ring(one) for one in (book, ~book)]
            self.assertEqual(*[None if ring is None else len(ring) for ring in rings])

    def test_asking_changes_nothing_and_results_are_new(self):
        book, betters = Book(FOUR, [A_B]), [("a", "b"), ("c", "b")]
        told = [repr(plain_stretches(book)), walls_of_stretches(book, betters), pins_of_stretches(book, betters),
                count_stretches(book), stretch_surely(book).answers()]
        plain_stretches(book).clear()
        walls_of_stretches(book, betters).clear()
        pins_of_stretches(book, betters).clear()
        self.assertEqual(told, [repr(plain_stretches(book)), walls_of_stretches(book, betters[::-1]),
                                pins_of_stretches(book, betters), count_stretches(book), stretch_surely(book).answers()])
        self.assertEqual((book.answers(), betters), ([A_B], [("a", "b"), ("c", "b")]))
        worse = Book(AB, [A_B, B_A])
        stretch_ring(worse).clear()
        caught(plain_stretches, worse).ring.clear()
        self.assertEqual((stretch_ring(worse), caught(plain_stretches, worse).ring), ([A_B, B_A], [A_B, B_A]))

    def test_quick(self):
        rows = books_of_stretches(SIX, 30, 187) + [(Book(SIX), [])]
        start = time.process_time()
        for book, betters in rows:
            stretch_ring(book)
            plain_stretches(book)
            pins_of_stretches(book, betters)
            count_or_many(book)
        self.assertLess(time.process_time() - start, 2)


def count_or_many(book):
    try:
        return count_stretches(book)
    except TooMany:
        return "many"


if __name__ == "__main__":
    unittest.main()
