"""[2], [3], [4], [6], [70] Spaces."""

import itertools
import unittest

from barelybetter.books import Book
from barelybetter.errors import NoNumber, Ring, TooMany, Unfit
from barelybetter.rings import is_possible, ring_of
from barelybetter.spaces import Space
from barelybetter.tables import Table
from barelybetter.ways import way_between
from tests import odd, oracle
from tests.odd import caught

ABC = ["a", "b", "c"]
FOUR = ["a", "b", "c", "d"]
SIX = ["a", "b", "c", "d", "e", "f"]
FREE = Book(ABC)
TABLE = Table(ABC, [("a", "c")])


def possible_books():
    books = oracle.all_books(ABC) + oracle.some_books(FOUR, 60, 81)
    return [book for book in books if is_possible(book)]


class SpacesTest(unittest.TestCase):

    def test_no_things_and_one_thing(self):
        for things in ([], ["a"]):
            space = Space(Book(things), most=1)
            self.assertEqual((len(space), space.links(), space.farthest()), (1, 0, 0))
            self.assertTrue(space.listed() == [Table(things, [])])
            self.assertTrue(space.between(space[0], space[0]) == [space[0]])

    def test_two_things(self):
        space = Space(Book(["b", "a"]))
        self.assertEqual([table.betters() for table in space], [[], [("a", "b")], [("b", "a")]])
        self.assertEqual((space.links(), space.farthest(), space.counts(("b", "a"))), (2, 2, (1, 2)))

    def test_a_book_that_one_table_alone_fits(self):
        space = Space(TABLE.full_book(), most=1)
        self.assertTrue(list(space) == [TABLE])
        self.assertEqual((space.links(), space.farthest()), (0, 0))
        self.assertEqual((space.counts(("a", "c")), space.counts(("c", "a"))), ((1, 0), (0, 1)))

    def test_all_tables_of_small_books(self):
        for book in possible_books():
            space = Space(book)
            tables = oracle.fitting(book)
            rows = sorted(sorted(betters) for betters in tables)
            self.assertEqual([table.betters() for table in space.listed()], rows)
            self.assertEqual([table.betters() for table in space], rows)
            self.assertEqual(len(space), len(rows))
            self.assertTrue(all(table.things() == book.things() for table in space))
            self.assertEqual([space.number(table) for table in space], list(range(len(rows))))
            self.assertEqual([space[k].betters() for k in range(len(rows))], rows)
            apart = [len(one ^ other) for one, other in itertools.combinations(tables, 2)]
            self.assertEqual(space.links(), apart.count(1))
            self.assertEqual(space.farthest(), max(apart, default=0))
            for pair in Book(book.things()).untold():
                better = sum(pair in betters for betters in tables)
                self.assertEqual(space.counts(pair), (better, len(tables) - better))

    def test_six_things(self):
        for betters in oracle.some_tables(SIX, 12, 82):
            answers = [(x, y, (x, y) in betters) for x in SIX for y in SIX if x != y]
            for told in (answers[::2], answers[1:], answers[:20]):
                book = Book(SIX, told)
                space = Space(book, most=2000)
                self.assertIn(Table(SIX, list(betters)), space)
                self.assertTrue(all(table.fits(book) for table in space))
                rows = [table.betters() for table in space]
                self.assertEqual(rows, sorted(rows))
                # Straight ways lead to each of them.
                for table in space.listed()[::40]:
                    way = way_between(book, Table(SIX, list(betters)), table)
                    self.assertTrue(all(one in space for one in way))

    def test_in(self):
        space = Space(Book(ABC, [("a", "c", True)]))
        self.assertIs(TABLE in space, True)
        self.assertIs(Table(ABC, [("a", "c"), ("a", "b")]) in space, True)
        others = [Table(ABC, []), Table(["a", "c"], [("a", "c")]), Table(FOUR, [("a", "c")]), Table([], []),
                  TABLE.full_book(), [("a", "c")], (("a", "c"),), 0, space]
        for value in odd.values() + others:
            self.assertIs(value in space, False)
        for value in others[:4]:
            self.assertIsInstance(caught(space.number, value), Unfit)

    def test_no_number(self):
        space = Space(Book(["a", "b"]))
        for value in odd.values() + [3, 4, -1, -3, True, False, slice(0, 1), (0,), [0], "0", 10 ** 39, TABLE]:
            if value is not False and value is not True and isinstance(value, int) and 0 <= value < 3:
                self.assertTrue(space[value] == space.listed()[value])
                continue
            error = caught(space.__getitem__, value)
            self.assertIsInstance(error, NoNumber)
            self.assertIs(error.index, value)

    def test_too_many(self):
        for book in possible_books()[::9]:
            many = len(oracle.fitting(book))
            self.assertEqual(len(Space(book, most=many)), many)
            if many > 1:
                error = caught(Space, book, most=many - 1)
                self.assertIsInstance(error, TooMany)
                self.assertEqual(error.most, many - 1)
                self.assertEqual(caught(Space, book, most=1).most, 1)
        self.assertEqual(caught(Space, Book(SIX)).most, 400)
        self.assertEqual(len(Space(Book(FOUR))), 183)
        self.assertEqual(caught(Space, Book(FOUR), most=182).most, 182)

    def test_ring_ahead_of_too_many(self):
        book = Book(ABC, [("c", "a", True), ("a", "c", True), ("b", "c", False)])
        error = caught(Space, book, most=1)
        self.assertIsInstance(error, Ring)
        self.assertEqual(error.ring, ring_of(book))

    def test_between(self):
        for book in (FREE, Book(ABC, [("a", "b", False)]), Book(FOUR, [("a", "b", True), ("c", "d", False)])):
            space = Space(book)
            tables = set(oracle.fitting(book))
            for one, other in list(itertools.product(space.listed(), repeat=2))[::3]:
                found = space.between(one, other)
                self.assertEqual([table.betters() for table in found], sorted(
                    sorted(betters) for betters in tables if on_some_way(tables, one, betters, other)))
                self.assertIs(one in found and other in found, True)

    def test_what_it_keeps_stays(self):
        book = Book(ABC, [("a", "b", False)])
        space = Space(book)
        many = len(space)
        for told in (space.listed(), list(space), space.between(space[0], space[many - 1])):
            told.clear()
        self.assertEqual((len(space), len(space.listed()), len(list(space))), (many, many, many))
        self.assertTrue(space.book == book)
        self.assertTrue(Space(book).book == Book(ABC, [("a", "b", False)]))
        self.assertIsNot(space.listed(), space.listed())
        with self.assertRaises(AttributeError):
            space.book = FREE


def on_some_way(tables, one, middle, other):
    """Tell whether single turns lead by tables from one to the middle and on to other, about no pair twice."""
    start, end = frozenset(one), frozenset(other)
    return not (start ^ middle) & (middle ^ end) and leads(tables, start, middle) and leads(tables, middle, end)


def leads(tables, one, other):
    return one == other or any(one ^ {pair} in tables and leads(tables, one ^ {pair}, other) for pair in one ^ other)


if __name__ == "__main__":
    unittest.main()
