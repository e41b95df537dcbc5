"""[3], [21], [31], [32], [41] What a Book keeps of what was asked changes no answer, and makes asking quick."""

import random
import time
import unittest

from barelybetter.books import Book
from barelybetter.ends import apart, is_sure, why
from barelybetter.errors import Ring
from barelybetter.heaviest import heaviest, heaviest_walk
from barelybetter.rings import is_possible, is_ring, ring_of
from barelybetter.scales import Scale
from tests import oracle

ABC = ["a", "b", "c"]
FOUR = ["a", "b", "c", "d"]
SIX = ["a", "b", "c", "d", "e", "f"]
FULL = Scale({"a": 0, "b": 3, "c": 1, "d": 5, "e": 2, "f": 4}, 2).full_book()


def calls_about(book):
    """Return all that can be asked about a book: functions with what they take behind it."""
    things = book.things()
    calls = [(ring_of,), (is_possible,)]
    calls += [(call, x, y) for x in things for y in things for call in (heaviest, heaviest_walk, apart)]
    return calls + [(call, answer) for answer in oracle.answers_about(things) for call in (is_sure, why)]


def asked(book, call, *given):
    try:
        return call(book, *given)
    except Ring as error:
        return ("ring", error.ring)


def told(book, calls):
    return {repr(call): asked(book, *call) for call in calls}


def some_books():
    return oracle.all_books(ABC)[::7] + oracle.some_books(FOUR, 30, 101) + oracle.some_books(SIX, 10, 102) + [FULL]


class KeptTest(unittest.TestCase):

    def test_twice_in_another_order_and_of_a_book_made_anew(self):
        chance = random.Random(103)
        for book in some_books():
            calls = calls_about(book)
            first = told(book, calls)
            self.assertEqual(told(book, calls), first)
            for _ in range(3):
                chance.shuffle(calls)
                other = Book(tuple(book.things()[::-1]), chance.sample(book.answers(), len(book)) + book.answers())
                self.assertEqual(told(other, calls), first)
                self.assertEqual(told(other, calls[::-1]), first)
            for call in calls[:40]:
                alone = Book(book.things(), book.answers())
                self.assertEqual(asked(alone, *call), first[repr(call)])

    def test_books_that_come_from_one_that_was_asked(self):
        turn = dict(zip(SIX, ["zoo", "d", "b", "yak", "a", "c"]))
        for book in some_books():
            told(book, calls_about(book))
            things = book.things()
            other = Book(things[:2] + ["x"], [(things[0], "x", True)])
            told(other, calls_about(other))
            found = [book.only(things[1:]), book.only([]), book.only(things), ~book, ~~book, book & other, book - other,
                     book - book, other - book, book | other, other | book,
                     book.renamed({thing: turn[thing] for thing in things}), book.put((things[1], things[0], False))
                     if book[things[1], things[0]] is None else book]
            found += [book.out(answer) for answer in book.answers()[:3]]
            found += [book.put((x, y, truth)) for x, y in book.untold()[:3] for truth in (False, True)]
            for one in found:
                calls = calls_about(one)
                self.assertEqual(told(one, calls), told(Book(one.things(), one.answers()), calls))
            # The one that was asked says what it said.
            anew = Book(things, book.answers())
            self.assertEqual(told(book, calls_about(book)), told(anew, calls_about(book)))
            self.assertTrue(book == anew)

    def test_what_was_returned_can_be_changed(self):
        for book in some_books():
            calls = calls_about(book)
            first = {key: repr(worth) for key, worth in told(book, calls).items()}
            for call in calls:
                result = asked(book, *call)
                for part in (result, result[1] if isinstance(result, tuple) else None):
                    if isinstance(part, list):
                        part.append(("z", "z", True))
                        part.reverse()
            self.assertEqual({key: repr(worth) for key, worth in told(book, calls).items()}, first)

    def test_the_ring_of_an_error_can_be_changed(self):
        book = Book(ABC, [("a", "b", True), ("b", "a", True), ("b", "c", True), ("c", "b", True)])
        for call in calls_about(book)[2:]:
            error = asked(book, *call)[1]
            self.assertEqual(error, [("a", "b", True), ("b", "a", True)])
            self.assertIs(is_ring(book, error), True)
            error.clear()
        self.assertEqual(ring_of(book), [("a", "b", True), ("b", "a", True)])
        self.assertIsNot(ring_of(book), ring_of(book))

    def test_asking_is_quick(self):
        # Some hundred times as long as it takes.
        start = time.process_time()
        for _ in range(20):
            for x in SIX:
                for y in SIX:
                    heaviest(FULL, x, y)
                    is_possible(FULL)
                    ring_of(FULL)
            for answer in FULL:
                is_sure(FULL, answer)
        self.assertLess(time.process_time() - start, 0.25)

    def test_asking_once_is_quick(self):
        books = [Book(SIX, FULL.answers()) for _ in range(200)]
        start = time.process_time()
        for book in books:
            heaviest(book, "a", "f")
        self.assertLess(time.process_time() - start, 0.16)


if __name__ == "__main__":
    unittest.main()
