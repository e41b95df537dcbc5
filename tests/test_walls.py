"""[2], [3], [4], [7], [8], [10], [13], [60] Walls."""

import unittest

from barelybetter.books import Book
from barelybetter.ends import open_pairs
from barelybetter.errors import Ring, Unfit
from barelybetter.rings import is_possible, ring_of
from barelybetter.tables import Table
from barelybetter.walls import neighbours, turns_alone, walls_of
from tests import oracle
from tests.odd import caught

ABC = ["a", "b", "c"]
FOUR = ["a", "b", "c", "d"]
SIX = ["a", "b", "c", "d", "e", "f"]


def books_and_tables():
    """Return Books with the betters of a table that fits each one."""
    found = [(book, betters) for book in oracle.all_books(ABC) if is_possible(book)
             for betters in oracle.fitting(book)[:3]]
    for betters in oracle.some_tables(FOUR, 60, 51):
        found += [(book, betters) for book in oracle.books_of(FOUR, betters, 3, len(found))]
    return found


def large_books_and_tables():
    found = []
    for betters in oracle.some_tables(SIX, 20, 52):
        found += [(book, betters) for book in oracle.books_of(SIX, betters, 2, len(found))]
    return found


class WallsTest(unittest.TestCase):

    def test_no_things_and_one_thing(self):
        for things in ([], ["a"]):
            self.assertEqual(walls_of(Book(things), Table(things, [])), [])
            self.assertEqual(neighbours(Book(things), Table(things, [])), [])

    def test_two_things(self):
        table = Table(["a", "b"], [])
        self.assertEqual(walls_of(Book(["a", "b"]), table), [("a", "b"), ("b", "a")])
        self.assertEqual(walls_of(Book(["a", "b"], [("a", "b", False)]), table), [("b", "a")])
        # From a better than b to b better than a there are two turns.
        self.assertEqual(walls_of(Book(["a", "b"]), Table(["a", "b"], [("a", "b")])), [("a", "b")])

    def test_a_book_that_one_table_alone_fits(self):
        table = Table(ABC, [("a", "c")])
        self.assertEqual(walls_of(table.full_book(), table), [])
        self.assertEqual(neighbours(table.full_book(), table), [])
        for pair in table.full_book().untold() + [("a", "b"), ("a", "c")]:
            self.assertIs(turns_alone(table.full_book(), table, pair), False)
        book = Book(ABC, [("a", "b", True), ("b", "c", True)])
        self.assertEqual(walls_of(book, Table(ABC, [("a", "b"), ("a", "c"), ("b", "c")])), [])

    def test_against_all_tables(self):
        for book, betters in books_and_tables():
            table = Table(book.things(), list(betters))
            walls = oracle.walls(book, betters)
            self.assertEqual(walls_of(book, table), walls, (book.answers(), betters))
            self.assertEqual([one.betters() for one in neighbours(book, table)], [
                sorted(betters ^ {pair}) for pair in walls])
            for x in book.things():
                for y in book.things():
                    if x != y:
                        self.assertIs(turns_alone(book, table, (x, y)), (x, y) in walls)

    def test_six_things(self):
        for book, betters in large_books_and_tables():
            table = Table(SIX, list(betters))
            walls = walls_of(book, table)
            self.assertEqual(walls, [
                pair for pair in book.untold() if oracle.patterns(SIX, betters ^ {pair}) == []])
            for pair, one in zip(walls, neighbours(book, table)):
                self.assertEqual(one ^ table, [pair])
                self.assertIs(one.fits(book), True)
                self.assertIn(pair, walls_of(book, one))

    def test_open_just_where_it_is_a_wall_of_some_table(self):
        books = oracle.all_books(ABC) + oracle.some_books(FOUR, 30, 53)
        for book in books:
            if is_possible(book):
                found = {pair for betters in oracle.fitting(book)
                         for pair in walls_of(book, Table(book.things(), list(betters)))}
                self.assertEqual(sorted(found), open_pairs(book))

    def test_turned_about_and_with_other_names(self):
        turn = dict(zip(SIX, ["zoo", "d", "b", "yak", "a", "c"]))
        for book, betters in large_books_and_tables():
            table = Table(SIX, list(betters))
            walls = walls_of(book, table)
            self.assertEqual(walls_of(~book, ~table), sorted((y, x) for x, y in walls))
            other = Table(list(turn.values()), [(turn[x], turn[y]) for x, y in betters])
            self.assertEqual(walls_of(book.renamed(turn), other), sorted((turn[x], turn[y]) for x, y in walls))

    def test_unfit(self):
        table = Table(ABC, [("a", "c")])
        for book in (Book(ABC, [("a", "b", True)]), Book(ABC, [("a", "c", False)]), Book(FOUR), Book(["a", "c"]), Book([])):
            for call in (walls_of, neighbours):
                self.assertIsInstance(caught(call, book, table), Unfit)
            self.assertIsInstance(caught(turns_alone, book, table, ("a", "c")), Unfit)

    def test_ring_ahead_of_unfit(self):
        book = Book(ABC, [("b", "c", True), ("a", "b", True), ("b", "a", True)])
        for table in (Table(ABC, [("a", "c")]), Table(ABC, []), Table(["a", "b"], [])):
            for call, given in ((walls_of, ()), (neighbours, ()), (turns_alone, (("a", "b"),))):
                error = caught(call, book, table, *given)
                self.assertIsInstance(error, Ring)
                self.assertEqual(error.ring, ring_of(book))

    def test_arguments_stay_and_results_are_new(self):
        book, table = Book(ABC, [("a", "b", False)]), Table(ABC, [("a", "c")])
        walls_of(book, table).clear()
        neighbours(book, table).clear()
        self.assertEqual(walls_of(book, table), [("a", "c"), ("b", "c")])
        self.assertEqual(len(neighbours(book, table)), 2)
        self.assertEqual((book.answers(), table.betters()), ([("a", "b", False)], [("a", "c")]))
        self.assertIsNot(neighbours(book, table)[0], neighbours(book, table)[0])


if __name__ == "__main__":
    unittest.main()
