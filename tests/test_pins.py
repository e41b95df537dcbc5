"""[2], [3], [4], [7], [41], [61] Pins."""

import itertools
import unittest

from barelybetter.books import Book
from barelybetter.ends import is_why, surely
from barelybetter.errors import Ring, Unfit
from barelybetter.pins import other_table, pin_why, pins_down, pins_of
from barelybetter.rings import is_possible, ring_of
from barelybetter.tables import Table, only_table
from barelybetter.walls import walls_of
from tests import oracle
from tests.odd import caught

ABC = ["a", "b", "c"]
FOUR = ["a", "b", "c", "d"]
SIX = ["a", "b", "c", "d", "e", "f"]
FREE = Book(ABC)
TABLE = Table(ABC, [("a", "c")])


def some_small():
    """Return Books with the betters of a table that fits each one."""
    found = [(FREE, betters) for betters in oracle.all_tables(tuple(ABC))]
    for betters in oracle.some_tables(FOUR, 30, 61):
        found += [(book, betters) for book in oracle.books_of(FOUR, betters, 2, len(found))]
    return found


def some_large():
    found = []
    for betters in oracle.some_tables(SIX, 12, 62):
        found += [(book, betters) for book in oracle.books_of(SIX, betters, 2, len(found))]
    return found


class PinsTest(unittest.TestCase):

    def test_no_things_and_one_thing(self):
        for things in ([], ["a"]):
            book, table = Book(things), Table(things, [])
            self.assertEqual(pins_of(book, table), [])
            self.assertIs(pins_down(book, table, []), True)
            self.assertIsNone(other_table(book, table, []))

    def test_a_book_that_one_table_alone_fits(self):
        book = Book(ABC, [("a", "b", True), ("b", "c", True)])
        table = only_table(book)
        self.assertEqual(pins_of(book, table), [])
        for answers in ([], table.full_book().answers(), [("a", "c", True)]):
            self.assertIs(pins_down(book, table, answers), True)
            self.assertIsNone(other_table(book, table, answers))

    def test_pins(self):
        for book, betters in some_small() + some_large():
            table = Table(book.things(), list(betters))
            pins = pins_of(book, table)
            self.assertEqual(pins, [(x, y, (x, y) in betters) for x, y in walls_of(book, table)])
            self.assertIs(pins_down(book, table, pins), True)
            self.assertIsNone(other_table(book, table, pins))
            # With the book they tell the table, and without one of them they do not.
            self.assertTrue(only_table(book | Book(book.things(), pins)) == table)
            for pin in pins:
                rest = [one for one in table.full_book() if one != pin]
                self.assertIs(pins_down(book, table, rest), False)
                self.assertIsNone(only_table(book | Book(book.things(), rest)))

    def test_all_sets_of_answers_of_three_things(self):
        for book in (FREE, Book(ABC, [("a", "b", True)]), Book(ABC, [("c", "b", False), ("a", "c", False)])):
            tables = oracle.fitting(book)
            for betters in tables:
                table = Table(ABC, list(betters))
                for many in range(7):
                    for answers in itertools.combinations(table.full_book().answers(), many):
                        others = [other for other in tables if other != betters
                                  and all(((x, y) in other) == truth for x, y, truth in answers)]
                        self.assertIs(pins_down(book, table, list(answers)), others == [])
                        self.hold_other_table(book, table, list(answers), others)

    def hold_other_table(self, book, table, answers, others):
        other = other_table(book, table, answers)
        if not others:
            self.assertIsNone(other)
            return
        self.assertIn(frozenset(other.betters()), others)
        self.assertIs(other == table, False)

    def test_other_table_of_six_things(self):
        for book, betters in some_large():
            table = Table(SIX, list(betters))
            answers = table.full_book().answers()
            for answers in (answers[::2], answers[1::2], answers[:20], answers[:1] * 3, answers[::-1]):
                other = other_table(book, table, answers)
                self.assertIs(pins_down(book, table, answers), other is None)
                if other is not None:
                    self.assertIs(other.fits(book), True)
                    self.assertIs(other.fits(Book(SIX, answers)), True)
                    self.assertIs(other == table, False)

    def test_pin_why(self):
        self.assertEqual(pin_why(FREE, TABLE, ("a", "c", True)), [("a", "c", True)])
        self.assertEqual(pin_why(FREE, TABLE, ("c", "a", False)), [("a", "c", True)])
        for book, betters in some_small():
            table = Table(book.things(), list(betters))
            known = book | Book(book.things(), pins_of(book, table))
            for answer in table.full_book():
                self.assertEqual(pin_why(book, table, answer), oracle.least_why(known, answer, 4))

    def test_pin_why_of_six_things(self):
        for book, betters in some_large():
            table = Table(SIX, list(betters))
            known = book | Book(SIX, pins_of(book, table))
            self.assertTrue(surely(known) == table.full_book())
            for answer in table.full_book():
                self.assertIs(is_why(known, answer, pin_why(book, table, answer)), True)

    def test_unfit_behind_ring(self):
        calls = [(pins_of, ()), (pins_down, ([],)), (other_table, ([],)), (pin_why, (("a", "c", True),))]
        for book in (Book(ABC, [("a", "c", False)]), Book(FOUR), Book([]), Book(["a", "c"], [("a", "c", True)])):
            for call, given in calls:
                self.assertIsInstance(caught(call, book, TABLE, *given), Unfit)
        book = Book(ABC, [("c", "a", True), ("a", "c", True), ("a", "b", False)])
        self.assertIs(is_possible(book), False)
        for call, given in calls:
            error = caught(call, book, TABLE, *given)
            self.assertIsInstance(error, Ring)
            self.assertEqual(error.ring, ring_of(book))

    def test_arguments_stay_and_results_are_new(self):
        book, answers = Book(ABC, [("a", "b", False)]), [("b", "c", False), ("a", "b", False)]
        pins_of(book, TABLE).clear()
        pin_why(book, TABLE, ("a", "c", True)).clear()
        self.assertIs(pins_down(book, TABLE, answers), False)
        self.assertEqual(other_table(book, TABLE, answers).betters(), [])
        self.assertEqual(answers, [("b", "c", False), ("a", "b", False)])
        self.assertEqual(pins_of(book, TABLE), [("a", "c", True), ("b", "c", False)])
        self.assertEqual(pin_why(book, TABLE, ("a", "c", True)), [("a", "c", True)])
        self.assertEqual((book.answers(), TABLE.betters()), ([("a", "b", False)], [("a", "c")]))


if __name__ == "__main__":
    unittest.main()
