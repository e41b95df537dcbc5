"""[3], [4], [5], [8], [42] The best things."""

import unittest

from barelybetter.best import best_of, best_sets, possibly_best, surely_best
from barelybetter.books import Book
from barelybetter.ends import is_sure
from barelybetter.errors import Ring
from barelybetter.rings import is_possible, ring_of
from barelybetter.scales import Scale, plainest
from tests import oracle

SIX = ["a", "b", "c", "d", "e", "f"]


class BestTest(unittest.TestCase):

    def test_no_things_and_one_thing(self):
        self.assertEqual(best_of(Scale({}, 1)), [])
        self.assertEqual(best_of(Scale({"a": -7}, 3)), ["a"])
        self.assertEqual([call(Book([])) for call in (surely_best, possibly_best, best_sets)], [[], [], [[]]])
        self.assertEqual([call(Book(["a"])) for call in (surely_best, possibly_best, best_sets)],
                         [["a"], ["a"], [["a"]]])

    def test_best_of(self):
        self.assertEqual(best_of(Scale({"c": 4, "a": 2, "b": 1}, 2)), ["a", "c"])
        self.assertEqual(best_of(Scale({"a": 0, "b": 0}, 1)), ["a", "b"])
        # A difference of just a step is none, one more is one.
        self.assertEqual(best_of(Scale({"a": 0, "b": 3, "c": 1}, 3)), ["a", "b", "c"])
        self.assertEqual(best_of(Scale({"a": 0, "b": 4, "c": 1}, 3)), ["b", "c"])
        self.assertEqual(best_of(Scale({"a": -9, "b": -2, "c": -5}, 3)), ["b", "c"])
        far = 10 ** 30
        self.assertEqual(best_of(Scale({"a": -far, "b": far, "c": 0, "d": 1}, far)), ["b", "c", "d"])

    def test_no_answers(self):
        book = Book(["b", "a"])
        self.assertEqual((surely_best(book), possibly_best(book)), ([], ["a", "b"]))
        self.assertEqual(best_sets(book), [["a"], ["a", "b"], ["b"]])
        self.assertEqual(len(best_sets(Book(SIX))), 63)

    def test_a_thing_that_only_its_betters_keep_from_the_best(self):
        # Neither a nor b is surely the better one of the two, but c is worth less than both.
        book = Book(["a", "b", "c"], [("a", "c", True), ("b", "c", True)])
        self.assertEqual((surely_best(book), possibly_best(book)), ([], ["a", "b"]))
        self.assertEqual(best_sets(book), [["a"], ["a", "b"], ["b"]])
        book = book.put(("a", "b", False))
        self.assertEqual((surely_best(book), possibly_best(book)), (["b"], ["a", "b"]))
        self.assertEqual(best_sets(book), [["a", "b"], ["b"]])

    def test_best_together_only(self):
        book = Book(["a", "b"], [("a", "b", False), ("b", "a", False)])
        self.assertEqual((surely_best(book), best_sets(book)), (["a", "b"], [["a", "b"]]))
        # Each of b and c may be among the best, but only both of them.
        book = Book(["a", "b", "c"], [("b", "c", False), ("c", "b", False), ("a", "b", True)])
        self.assertIn(["a", "c"], best_sets(book))
        self.assertEqual(possibly_best(book), ["a", "c"])

    def test_against_all_tables(self):
        books = oracle.all_books(["a", "b", "c"]) + oracle.some_books(["a", "b", "c", "d"], 120, 21)
        for book in books + [Book(["a", "b"], row) for row in ([], [("b", "a", True)], [("b", "a", False)])]:
            if is_possible(book):
                self.hold_against_tables(book)

    def hold_against_tables(self, book):
        lists = [list(row) for row in oracle.best_lists(book)]
        self.assertEqual(best_sets(book), lists, book.answers())
        self.assertEqual(surely_best(book), [x for x in book.things() if all(x in row for row in lists)])
        self.assertEqual(possibly_best(book), [x for x in book.things() if any(x in row for row in lists)])

    def test_some_books_of_six_things(self):
        for book in oracle.some_books(SIX, 24, 22):
            if not is_possible(book):
                continue
            sets = best_sets(book)
            self.assertEqual(sets, sorted(sets))
            self.assertEqual(len(sets), len({tuple(best) for best in sets}))
            self.assertIn(best_of(plainest(book)), sets)
            for x in SIX:
                self.assertEqual(x in surely_best(book), all(x in best for best in sets))
                self.assertEqual(x in possibly_best(book), any(x in best for best in sets))
                self.assertEqual(x in surely_best(book), all(is_sure(book, (y, x, False)) for y in SIX if y != x))

    def test_ring(self):
        book = Book(["a", "b", "c"], [("a", "b", True), ("b", "a", True), ("b", "c", True)])
        for call in (surely_best, possibly_best, best_sets):
            with self.assertRaises(Ring) as held:
                call(book)
            self.assertEqual(held.exception.ring, ring_of(book))

    def test_what_was_returned_is_new(self):
        book, scale = Book(["a", "b"]), Scale({"a": 1, "b": 0}, 1)
        for call, given in ((best_of, scale), (surely_best, book), (possibly_best, book), (best_sets, book)):
            told = call(given)
            kept = repr(told)
            told.append("z")
            self.assertEqual(repr(call(given)), kept)
        best_sets(book)[0].append("z")
        self.assertEqual(best_sets(book), [["a"], ["a", "b"], ["b"]])
        self.assertEqual((book.answers(), scale.worths()), ([], {"a": 1, "b": 0}))


if __name__ == "__main__":
    unittest.main()
