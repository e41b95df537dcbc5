"""[3], [9], [10], [13], [51] Orders of a table."""

import itertools
import unittest

from barelybetter.orders import as_good, levels_of, longest_row, ranks_of
from barelybetter.tables import Table
from tests import oracle

ABC = ["a", "b", "c"]
SIX = ["a", "b", "c", "d", "e", "f"]


def all_small_tables():
    return [Table(things, list(betters)) for things in ([], ["a"], ["a", "b"], ABC, SIX[:4])
            for betters in oracle.all_tables(tuple(things))]


def some_large_tables():
    return [Table(SIX, list(betters)) for betters in oracle.some_tables(SIX, 60, 41)]


def as_good_by_words(table, x, y):
    others = table.things()
    above = all(table[x, z] for z in others if y != z and table[y, z] and z != x)
    # Nothing is better than itself, so x must not stand below y.
    if x != y and table[y, x]:
        return False
    below = all(table[z, y] for z in others if z != x and table[z, x] and z != y)
    return above and below


def rows_of_betters(table):
    """Return all rows of things each of which is better than the next one."""
    rows = [[]]
    layer = [[thing] for thing in table.things()]
    while layer:
        rows = rows + layer
        layer = [row + [thing] for row in layer for thing in table.things() if (row[-1], thing) in table.betters()]
    return rows


class OrdersTest(unittest.TestCase):

    def test_no_things_and_one_thing(self):
        self.assertEqual([call(Table([], [])) for call in (ranks_of, levels_of, longest_row)], [[], [], []])
        table = Table(["a"], [])
        self.assertEqual([call(table) for call in (ranks_of, levels_of, longest_row)], [[["a"]], [["a"]], ["a"]])
        self.assertIs(as_good(table, "a", "a"), True)

    def test_as_good(self):
        table = Table(ABC, [("a", "c")])
        for x, y in itertools.product(ABC, repeat=2):
            self.assertIs(as_good(table, x, y), x <= y)
        for x, y in itertools.product(ABC, repeat=2):
            self.assertIs(as_good(Table(ABC, []), x, y), True)
        # c is as good as b only by what is better, b as good as c by both.
        table = Table(["a", "b", "c", "d"], [("a", "c"), ("a", "d"), ("b", "d")])
        self.assertEqual([as_good(table, "b", "c"), as_good(table, "c", "b"), as_good(table, "a", "b")], [True, False, True])

    def test_against_the_words(self):
        for table in all_small_tables() + some_large_tables()[:20]:
            for x, y in itertools.product(table.things(), repeat=2):
                self.assertIs(as_good(table, x, y), as_good_by_words(table, x, y))
                self.assertTrue(as_good(table, x, y) or as_good(table, y, x))

    def test_ranks(self):
        self.assertEqual(ranks_of(Table(["b", "a", "c"], [])), [ABC])
        self.assertEqual(ranks_of(Table(ABC, [("c", "a"), ("c", "b")])), [["c"], ["a", "b"]])
        self.assertEqual(ranks_of(Table(ABC, [("b", "a"), ("c", "a")])), [["b", "c"], ["a"]])
        self.assertEqual(ranks_of(Table(ABC, [("c", "a")])), [["c"], ["b"], ["a"]])
        for table in all_small_tables() + some_large_tables():
            ranks = ranks_of(table)
            self.assertEqual(sorted(sum(ranks, [])), table.things())
            for k, rank in enumerate(ranks):
                self.assertEqual(rank, sorted(rank))
                for x in rank:
                    self.assertTrue(all(as_good(table, x, y) for later in ranks[k:] for y in later))
                    self.assertFalse(any(as_good(table, y, x) for later in ranks[k + 1:] for y in later))

    def test_levels(self):
        self.assertEqual(levels_of(Table(ABC, [])), [ABC])
        self.assertEqual(levels_of(Table(ABC, [("c", "b"), ("c", "a"), ("b", "a")])), [["c"], ["b"], ["a"]])
        for table in all_small_tables() + some_large_tables():
            rows = rows_of_betters(table)
            levels = levels_of(table)
            deepest = max(map(len, rows))
            self.assertEqual(levels, [
                [x for x in table.things() if max(len(row) for row in rows if row and row[-1] == x) == k + 1]
                for k in range(deepest)])
            for level in levels:
                self.assertFalse(any(table[x, y] for x in level for y in level if x != y))

    def test_longest_row(self):
        self.assertEqual(longest_row(Table(ABC, [])), ["a"])
        self.assertEqual(longest_row(Table(ABC, [("c", "b")])), ["c", "b"])
        self.assertEqual(longest_row(Table(SIX, [("f", y) for y in SIX[:5]] + [(x, "a") for x in SIX[1:5]])),
                         ["f", "b", "a"])
        for table in all_small_tables() + some_large_tables():
            rows = rows_of_betters(table)
            most = max(map(len, rows))
            self.assertEqual(longest_row(table), min(row for row in rows if len(row) == most))

    def test_turned_about_and_with_other_names(self):
        turn = dict(zip(SIX, ["zoo", "d", "b", "yak", "a", "c"]))
        for table in some_large_tables():
            self.assertEqual(ranks_of(~table), ranks_of(table)[::-1])
            self.assertEqual(len(longest_row(~table)), len(longest_row(table)))
            other = Table(list(turn.values()), [(turn[x], turn[y]) for x, y in table])
            for call in (ranks_of, levels_of):
                self.assertEqual(call(other), [sorted(turn[x] for x in row) for row in call(table)])

    def test_what_was_returned_is_new(self):
        table = Table(ABC, [("a", "c")])
        for call in (ranks_of, levels_of, longest_row):
            told = call(table)
            kept = repr(told)
            if isinstance(told[0], list):
                told[0].append("z")
            told.append("z")
            self.assertEqual(repr(call(table)), kept)
        self.assertEqual((table.things(), table.betters()), (ABC, [("a", "c")]))


if __name__ == "__main__":
    unittest.main()
