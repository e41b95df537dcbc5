"""[2], [3], [4], [9], [50] Tables and patterns."""

import itertools
import unittest

from barelybetter.books import Book
from barelybetter.ends import open_pairs
from barelybetter.errors import NoPair, NoTable, NoThing, Ring, Unlike, Wrong
from barelybetter.kinds import contrary
from barelybetter.rings import is_possible, ring_of
from barelybetter.scales import Scale
from barelybetter.tables import Table, only_table, patterns_of, table_of
from tests import odd, oracle
from tests.odd import are_things, caught

ABC = ["a", "b", "c"]
FOUR = ["a", "b", "c", "d"]
SIX = ["a", "b", "c", "d", "e", "f"]
AB, AC, BA, BC, CA = ("a", "b"), ("a", "c"), ("b", "a"), ("b", "c"), ("c", "a")


def pairs_of(things):
    return [(x, y) for x in things for y in things if x != y]


class PatternsTest(unittest.TestCase):

    def test_no_pairs(self):
        for things in ([], ["a"], ABC, SIX):
            self.assertEqual(patterns_of(things, []), [])

    def test_two_and_three(self):
        # What is better than each other is better than itself by no table.
        self.assertEqual(patterns_of(["b", "a"], [AB, BA]), [
            ("three", "a", "b", "a", "a"), ("three", "b", "a", "b", "b"), ("two", "a", "b", "b", "a"),
            ("two", "b", "a", "a", "b")])
        self.assertEqual(patterns_of(FOUR, [("d", "c"), AB]), [("two", "a", "b", "d", "c"), ("two", "d", "c", "a", "b")])
        self.assertEqual(patterns_of(FOUR, [("c", "d"), ("b", "d"), BC]), [
            ("three", "b", "c", "d", "a")])
        self.assertEqual(patterns_of(FOUR, [AB]), [])

    def test_all_pairs_of_three_things_and_some_of_more(self):
        for many in range(7):
            for betters in itertools.combinations(pairs_of(ABC), many):
                self.assertEqual(patterns_of(["c", "a", "b"], list(betters)), oracle.patterns(ABC, betters))
        for things, seed in ((FOUR, 31), (SIX, 32)):
            for betters in oracle.some_pairs(things, 40, seed):
                self.assertEqual(patterns_of(things[::-1], betters), oracle.patterns(things, betters))

    def test_no_pattern_just_where_worths_tell_the_pairs(self):
        tables = set(oracle.all_tables(tuple(FOUR)))
        pairs = pairs_of(FOUR)
        for bits in range(1 << 12):
            betters = [pair for at, pair in enumerate(pairs) if bits >> at & 1]
            found = patterns_of(FOUR, betters)
            self.assertEqual(found == [], frozenset(betters) in tables)
            if found == []:
                self.assertEqual(Table(FOUR, betters).betters(), betters)
            else:
                error = caught(Table, FOUR, betters)
                self.assertIsInstance(error, NoTable)
                self.assertEqual(error.pattern, found[0])

    def test_arguments_stay_and_results_are_new(self):
        things, betters = ["c", "b", "a"], [BC, AB]
        patterns_of(things, betters).clear()
        self.assertEqual((things, betters), (["c", "b", "a"], [BC, AB]))
        self.assertEqual(len(patterns_of(things, betters)), 4)


class TableBuildTest(unittest.TestCase):

    def test_no_things_and_one_thing(self):
        for empty in (Table([], []), Table((), ()), Table([], ())):
            self.assertEqual((empty.things(), empty.betters(), len(empty), list(empty)), ([], [], 0, []))
            self.assertTrue(empty == Table([], []))
        self.assertEqual((Table(["a"], ()).things(), len(Table(["a"], []))), (["a"], 0))

    def test_in_any_order_and_several_times(self):
        table = Table(("c", "a", "b"), (BC, AC, AB, BC, AC))
        self.assertEqual((table.things(), table.betters(), list(table), len(table)), (ABC, [AB, AC, BC], [AB, AC, BC], 3))
        self.assertTrue(table == Table(ABC, [AB, AC, BC]))

    def test_what_a_caller_changes_changes_no_table(self):
        things, betters = ["b", "a", "c"], [AC]
        table = Table(things, betters)
        self.assertEqual((things, betters), (["b", "a", "c"], [AC]))
        things.append("d")
        betters.append(AB)
        table.things().append("d")
        table.betters().append(AB)
        list(table).clear()
        (table ^ ~table).clear()
        self.assertEqual((table.things(), table.betters(), len(table), table["a", "b"]), (ABC, [AC], 1, False))
        self.assertIsNot(table.things(), table.things())
        self.assertIsNot(table.betters(), table.betters())

    def test_wrong_things(self):
        for value in odd.values():
            if are_things(value):
                self.assertEqual(Table(value, []).things(), sorted(value))
            else:
                error = caught(Table, value, None)
                self.assertIsInstance(error, Wrong)
                self.assertEqual(error.place, 0)

    def test_wrong_betters(self):
        more = [[("a", "b"), None], [["a", "b"]], [("a", "a")], [("a",)], [("a", "b", "c")], [("a", "")], [("a", 1)],
                [("A", "b")], [("a", "abcdefghi")], (("a", "b"), ["b", "a"]), {("a", "b")}, {("a", "b"): True},
                ["ab"], "ab", [("a", "b", True)]]
        for value in odd.values() + more:
            if value in ([], (), [("a", "b")]):
                self.assertEqual(len(Table(["a", "b"], value)), len(value))
                continue
            error = caught(Table, ["a", "b"], value)
            self.assertIsInstance(error, Wrong)
            self.assertEqual(error.place, 1)

    def test_no_thing(self):
        for betters, stranger in (
                ([("a", "x")], "x"), ([("x", "a")], "x"), ([("y", "x")], "y"), ([AB, ("b", "z"), ("p", "q")], "z"),
                ([BA, AB, ("a", "q")], "q"), ((("b", "y"), ("x", "a")), "y")):
            error = caught(Table, ["b", "a"], betters)
            self.assertIsInstance(error, NoThing)
            self.assertEqual(error.thing, stranger)
        self.assertEqual(caught(Table, [], [AB]).thing, "a")

    def test_no_table(self):
        error = caught(Table, ["c", "b", "a"], (BC, AB, BC))
        self.assertIsInstance(error, NoTable)
        self.assertEqual(error.pattern, ("three", "a", "b", "c", "a"))
        self.assertEqual(caught(Table, FOUR, [("d", "c"), AB]).pattern, ("two", "a", "b", "d", "c"))
        self.assertEqual(caught(Table, ["a", "b"], [BA, AB]).pattern, ("three", "a", "b", "a", "a"))

    def test_the_order_of_the_errors(self):
        self.assertEqual(caught(Table, ["a", "a"], [None]).place, 0)
        self.assertEqual(caught(Table, ["a", "b"], [BA, AB, ("x", "y"), None]).place, 1)
        self.assertEqual(caught(Table, ["a", "b"], [BA, AB, ("b", "x")]).thing, "x")

    def test_the_least_pattern_of_six_things(self):
        # Nearly a table, so that the patterns are few and hidden.
        for betters in oracle.some_pairs(SIX, 300, 33):
            found = oracle.patterns(SIX, betters) if len(betters) < 12 else patterns_of(SIX, betters)
            if found:
                self.assertEqual(caught(Table, SIX, betters).pattern, found[0])
            else:
                self.assertEqual(Table(SIX, betters).betters(), sorted(betters))

    def test_many_things(self):
        names = [x + y for x in "abcdefghijklmno" for y in "abcdefghij"]
        betters = [(x, y) for i, x in enumerate(names) for y in names[i + 5:]]
        self.assertEqual(len(Table(names, betters)), len(betters))
        betters.remove(("aa", "oj"))
        self.assertEqual(caught(Table, names, betters).pattern, ("three", "aa", "af", "ba", "oj"))
        self.assertEqual(len(Table(["a", "b"], [AB] * 6000)), 1)


class TableAskTest(unittest.TestCase):

    def setUp(self):
        self.table = Table(ABC, [AC])

    def test_getting(self):
        for x, y in pairs_of(ABC):
            self.assertIs(self.table[x, y], (x, y) == AC)
        for value in odd.values() + [("a", "a"), ("a", "d"), ("d", "a"), ["a", "c"], ("a", "c", True), "ac", ("A", "c")]:
            if value == ("a", "b"):
                continue
            for call in (self.table.__getitem__, self.table.turned):
                error = caught(call, value)
                self.assertIsInstance(error, NoPair)
                self.assertIs(error.pair, value)

    def test_full_book(self):
        book = self.table.full_book()
        self.assertEqual(book.answers(), [(x, y, (x, y) == AC) for x, y in pairs_of(ABC)])
        self.assertTrue(Table([], []).full_book() == Book([]))
        self.assertTrue(Table(["a"], []).full_book() == Book(["a"]))

    def test_fits(self):
        self.assertIs(self.table.fits(Book(ABC)), True)
        self.assertIs(self.table.fits(Book(ABC, [("a", "c", True), ("c", "a", False)])), True)
        for book in (Book(ABC, [("a", "c", False)]), Book(ABC, [("a", "b", True)]), Book(FOUR), Book(["a", "c"]),
                     Book(["a", "c"], [("a", "c", True)]), Book(ABC, [("a", "b", True), ("b", "a", True)]),
                     Book(ABC, [("a", "c", True), ("c", "a", True)]), Book([])):
            self.assertIs(self.table.fits(book), False)

    def test_turned(self):
        self.assertTrue(self.table.turned(AC) == Table(ABC, []))
        self.assertTrue(self.table.turned(AB) == Table(ABC, [AB, AC]))
        self.assertEqual(self.table.betters(), [AC])
        error = caught(self.table.turned, CA)
        self.assertIsInstance(error, NoTable)
        self.assertEqual(error.pattern, oracle.patterns(ABC, [AC, CA])[0])

    def test_turned_of_all_tables(self):
        for betters in oracle.all_tables(tuple(FOUR)):
            table = Table(FOUR, list(betters))
            for pair in pairs_of(FOUR):
                found = oracle.patterns(FOUR, betters ^ {pair})
                if found:
                    self.assertEqual(caught(table.turned, pair).pattern, found[0])
                else:
                    self.assertEqual(table.turned(pair).betters(), sorted(betters ^ {pair}))
                    self.assertEqual(table.turned(pair) ^ table, [pair])

    def test_exchanged(self):
        table = Table(ABC, [AB, AC])
        self.assertEqual((~table).betters(), [BA, CA])
        self.assertEqual((~table).things(), ABC)
        self.assertTrue(~~table == table)
        self.assertTrue((~table).full_book() == ~table.full_book())

    def test_within(self):
        more = Table(ABC, [AB, AC])
        for one, other, truth in ((self.table, more, True), (more, self.table, False), (more, more, True),
                                  (Table(ABC, []), more, True), (Table(["a", "c"], [AC]), more, False),
                                  (Table([], []), Table(["a"], []), False), (Table([], []), Table([], []), True),
                                  (Table(ABC, [BC]), more, False), (self.table, Table(FOUR, [AC]), False)):
            self.assertIs(one.within(other), truth)

    def test_unlike(self):
        self.assertEqual(self.table ^ Table(ABC, [AB, AC]), [AB])
        self.assertEqual(self.table ^ Table(ABC, [CA]), [AC, CA])
        self.assertEqual(self.table ^ self.table, [])
        for other in (Table(["a", "c"], [AC]), Table(FOUR, [AC]), Table([], [])):
            self.assertIsInstance(caught(lambda: self.table ^ other), Unlike)
            self.assertIsInstance(caught(lambda: other ^ self.table), Unlike)
        tables = oracle.all_tables(tuple(ABC))
        for one, other in itertools.product(tables, repeat=2):
            self.assertEqual(Table(ABC, list(one)) ^ Table(ABC, list(other)), sorted(one ^ other))

    def test_equal(self):
        self.assertIs(self.table == Table(("c", "b", "a"), (AC, AC)), True)
        self.assertIs(self.table != Table(ABC, [AC]), False)
        others = [Table(ABC, []), Table(ABC, [CA]), Table(["a", "c"], [AC]), Table(FOUR, [AC]),
                  self.table.full_book(), Book(ABC), [AC], Scale({"a": 2, "b": 1, "c": 0}, 1)]
        for value in odd.values() + others:
            self.assertIs(self.table == value, False)
            self.assertIs(self.table != value, True)
            self.assertIs(value == self.table, False)


class TableOfTest(unittest.TestCase):

    def test_table_of(self):
        self.assertTrue(table_of(Scale({}, 1)) == Table([], []))
        self.assertTrue(table_of(Scale({"a": 5}, 1)) == Table(["a"], []))
        # A difference of just a step is none.
        self.assertEqual(table_of(Scale({"a": -9, "b": -6, "c": -5}, 3)).betters(), [CA])
        far = 10 ** 30
        self.assertEqual(table_of(Scale({"b": -far, "a": far, "c": 0}, far)).betters(), [AB])
        for worths in itertools.product(range(5), repeat=3):
            scale = Scale(dict(zip(ABC, worths)), 2)
            self.assertTrue(table_of(scale).full_book() == scale.full_book())
            self.assertIs(table_of(scale).fits(scale.full_book()), True)

    def test_only_table(self):
        self.assertTrue(only_table(Book([])) == Table([], []))
        self.assertTrue(only_table(Book(["a"])) == Table(["a"], []))
        self.assertIsNone(only_table(Book(["a", "b"])))
        self.assertTrue(only_table(Book(["b", "a"], [("b", "a", True)])) == Table(["a", "b"], [BA]))
        self.assertIsNone(only_table(Book(["a", "b"], [("b", "a", False)])))

    def test_only_table_of_all_books(self):
        for book in oracle.all_books(ABC) + oracle.some_books(FOUR, 100, 34):
            tables = oracle.fitting(book)
            if not is_possible(book):
                error = caught(only_table, book)
                self.assertIsInstance(error, Ring)
                self.assertEqual(error.ring, ring_of(book))
                self.assertEqual(tables, [])
            elif len(tables) == 1:
                self.assertEqual(only_table(book).betters(), sorted(tables[0]))
                self.assertEqual(only_table(book).things(), book.things())
                self.assertEqual(open_pairs(book), [])
            else:
                self.assertIsNone(only_table(book))

    def test_a_table_and_worths_say_the_same(self):
        for betters in oracle.some_tables(SIX, 60, 35):
            table = Table(SIX, list(betters))
            self.assertTrue(only_table(table.full_book()) == table)
            for answer in table.full_book().answers()[:6]:
                self.assertIs(table.fits(table.full_book().out(answer).put(contrary(answer))), False)


if __name__ == "__main__":
    unittest.main()
