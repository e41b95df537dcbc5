"""[3], [4], [6], [62] Ways."""

import itertools
import unittest

from barelybetter.books import Book
from barelybetter.errors import Ring, Unfit
from barelybetter.rings import ring_of
from barelybetter.tables import Table
from barelybetter.walls import walls_of
from barelybetter.ways import count_ways, first_turns, is_way, way_between
from tests import odd, oracle
from tests.odd import caught

ABC = ["a", "b", "c"]
FOUR = ["a", "b", "c", "d"]
SIX = ["a", "b", "c", "d", "e", "f"]
FREE = Book(ABC)
NONE, AC = Table(ABC, []), Table(ABC, [("a", "c")])
CHAIN = Table(ABC, [("a", "b"), ("a", "c"), ("b", "c")])


def orders_of_turns(tables, one, other):
    """Return how many orders of the pairs lead from one set of betters to the other one by tables alone."""
    if one == other:
        return 1
    nearer = [one ^ {pair} for pair in one ^ other]
    return sum(orders_of_turns(tables, table, other) for table in nearer if table in tables)


def books_with_two():
    """Return Books of six things, each with the betters of two tables that fit it."""
    found = []
    tables = oracle.some_tables(SIX, 60, 71)
    for one, other in zip(tables, tables[1:]):
        same = [(x, y, (x, y) in one) for x in SIX for y in SIX if x != y and ((x, y) in one) == ((x, y) in other)]
        found += [(Book(SIX, same[::step]), one, other) for step in (1, 3)]
    return found


class WaysTest(unittest.TestCase):

    def test_equal_tables(self):
        for book, table in ((Book([]), Table([], [])), (Book(["a"]), Table(["a"], [])), (FREE, AC),
                            (AC.full_book(), AC)):
            other = Table(table.things(), table.betters())
            self.assertEqual(way_between(book, table, other), [table])
            self.assertEqual(count_ways(book, table, other), 1)
            self.assertEqual(first_turns(book, table, other), [])
            self.assertIs(is_way(book, table, other, [table]), True)
            self.assertIs(is_way(book, table, other, []), False)
            self.assertIs(is_way(book, table, other, [table, other]), False)

    def test_all_tables_of_three_things(self):
        for book in (FREE, Book(ABC, [("a", "b", False)]), Book(ABC, [("c", "a", True)])):
            tables = set(oracle.fitting(book))
            for one, other in itertools.product(oracle.fitting(book), repeat=2):
                start, goal = Table(ABC, list(one)), Table(ABC, list(other))
                self.hold_a_way(book, start, goal)
                self.assertEqual(count_ways(book, start, goal), orders_of_turns(tables, one, other))
                self.assertEqual(first_turns(book, start, goal), [
                    pair for pair in oracle.walls(book, one) if pair in one ^ other])

    def hold_a_way(self, book, one, other):
        way = way_between(book, one, other)
        self.assertEqual(len(way), len(one ^ other) + 1)
        self.assertTrue(way[0] == one and way[-1] == other)
        self.assertTrue(all(table.fits(book) for table in way))
        turns = [ahead ^ behind for ahead, behind in zip(way, way[1:])]
        self.assertEqual(sorted(turns), [[pair] for pair in one ^ other])
        self.assertIs(is_way(book, one, other, way), True)
        self.assertIs(is_way(book, other, one, way[::-1]), True)
        self.assertIs(is_way(book, other, one, way), len(way) == 1)

    def test_four_things(self):
        tables = oracle.all_tables(tuple(FOUR))
        known = set(tables)
        for one, other in zip(tables, tables[::-7] + tables[5:]):
            start, goal = Table(FOUR, list(one)), Table(FOUR, list(other))
            self.hold_a_way(Book(FOUR), start, goal)
            if len(one ^ other) <= 8:
                self.assertEqual(count_ways(Book(FOUR), start, goal), orders_of_turns(known, one, other))

    def test_the_straight_way_of_six_things(self):
        for book, one, other in books_with_two():
            start, goal = Table(SIX, list(one)), Table(SIX, list(other))
            self.hold_a_way(book, start, goal)
            turns = first_turns(book, start, goal)
            self.assertEqual(turns, [pair for pair in walls_of(book, start) if start[pair] != goal[pair]])
            self.assertEqual(turns == [], one == other)
            for pair in turns:
                self.assertIs(start.turned(pair).fits(book), True)

    def test_count_ways_of_eight_pairs(self):
        # Four turns that hang on none of the others, and then eight.
        things = ["a", "b", "c", "d", "e"]
        worse = [("a", y) for y in things[1:]]
        one = Table(things, [])
        self.assertEqual(count_ways(Book(things), one, Table(things, worse)), 24)
        counts = set()
        for book, one, other in books_with_two():
            start, goal = Table(SIX, list(one)), Table(SIX, list(other))
            if len(one ^ other) <= 8:
                counts.add(count_ways(book, start, goal))
                self.assertEqual(count_ways(book, start, goal), count_ways(book, goal, start))
                firsts = [start.turned(pair) for pair in first_turns(book, start, goal)]
                self.assertEqual(count_ways(book, start, goal), max(1, sum(
                    count_ways(book, table, goal) for table in firsts)))
        self.assertGreater(len(counts), 5)

    def test_is_way(self):
        one, other = Table(ABC, [("c", "a"), ("c", "b")]), Table(ABC, [("a", "c")])
        way = [one, Table(ABC, [("c", "a")]), NONE, other]
        self.assertIs(is_way(FREE, one, other, way), True)
        self.assertIs(is_way(FREE, Table(ABC, [("c", "b"), ("c", "a")]), AC, way), True)
        bad = [way[1:], way[:-1], way[::-1], [one, other], way[:1] + way[2:], way[:2] + way[3:], tuple(way), way[:1] * 4,
               [way[0], way[2], way[1], way[3]], way + way[-1:], way[:1] + way, way[:2] + way[1:], [way], way + [None],
               [None] + way, way[:2] + [None] + way[2:], way[:2] + [NONE.full_book()] + way[3:], way[:2] + [[]] + way[3:],
               way[:2] + [Table(FOUR, [])] + way[3:], way[:2] + [Table(["a", "c"], [])] + way[3:],
               [table.betters() for table in way], {1: way}]
        for thing in bad + odd.values():
            self.assertIs(is_way(FREE, one, other, thing), False, thing)

    def test_is_way_takes_no_pair_twice(self):
        # There and back again, each time by one turned answer.
        more = Table(ABC, [("b", "c"), ("a", "c")])
        self.assertIs(is_way(FREE, NONE, AC, [NONE, AC]), True)
        self.assertIs(is_way(FREE, NONE, AC, [NONE, AC, NONE, AC]), False)
        self.assertIs(is_way(FREE, NONE, AC, [NONE, AC, more, AC]), False)
        self.assertIs(is_way(FREE, NONE, NONE, [NONE, AC, NONE]), False)
        self.assertIs(is_way(FREE, AC, CHAIN, [AC, more, CHAIN]), True)

    def test_is_way_by_tables_that_fit_alone(self):
        book = Book(ABC, [("a", "c", False)])
        one, other = NONE, Table(ABC, [("c", "a")])
        self.assertIs(is_way(book, one, other, [one, other]), True)
        self.assertIs(is_way(book, one, other, [one, AC, one, other]), False)

    def test_unfit_of_either_table(self):
        book = Book(ABC, [("a", "c", True)])
        calls = [(way_between, ()), (is_way, ([AC],)), (is_way, (None,)), (count_ways, ()), (first_turns, ())]
        for call, given in calls:
            for one, other in ((AC, NONE), (NONE, AC), (NONE, NONE), (Table(["a", "c"], [("a", "c")]), AC),
                               (AC, Table(FOUR, [("a", "c")])), (AC, Table([], []))):
                self.assertIsInstance(caught(call, book, one, other, *given), Unfit)
            rings = Book(ABC, [("c", "a", True), ("a", "c", True), ("b", "c", False)])
            for one, other in ((AC, NONE), (NONE, AC), (AC, AC), (Table([], []), AC)):
                error = caught(call, rings, one, other, *given)
                self.assertIsInstance(error, Ring)
                self.assertEqual(error.ring, ring_of(rings))

    def test_arguments_stay_and_results_are_new(self):
        way = way_between(FREE, AC, CHAIN)
        kept = list(way)
        self.assertIs(is_way(FREE, AC, CHAIN, way), True)
        self.assertEqual(way, kept)
        way.clear()
        first_turns(FREE, AC, CHAIN).clear()
        self.assertEqual(way_between(FREE, AC, CHAIN), kept)
        self.assertEqual(first_turns(FREE, AC, CHAIN), [("a", "b"), ("b", "c")])
        self.assertEqual((FREE.answers(), AC.betters(), len(CHAIN)), ([], [("a", "c")], 3))


if __name__ == "__main__":
    unittest.main()
