"""[2], [32] The heaviest walks."""

import unittest

from barelybetter.books import Book
from barelybetter.ends import codes_with, open_pairs
from barelybetter.errors import Ring
from barelybetter.heaviest import heaviest, heaviest_walk
from barelybetter.layers import codes_of
from barelybetter.rings import is_possible, ring_of
from barelybetter.walks import is_walk, weight_of
from tests import oracle


class HeaviestTest(unittest.TestCase):

    def test_one_thing(self):
        self.assertEqual(heaviest(Book(["a"]), "a", "a"), (0, 0))
        self.assertEqual(heaviest_walk(Book(["a"]), "a", "a"), [])

    def test_a_thing_to_itself_goes_round_nowhere(self):
        book = Book(["a", "b"], [("a", "b", False), ("b", "a", False)])
        self.assertEqual(heaviest(book, "b", "b"), (0, 0))
        self.assertEqual(heaviest_walk(book, "b", "b"), [])

    def test_no_walk(self):
        book = Book(["a", "b", "c"], [("a", "b", True)])
        for x, y in (("b", "a"), ("a", "c"), ("c", "a")):
            self.assertIsNone(heaviest(book, x, y))
            self.assertIsNone(heaviest_walk(book, x, y))

    def test_more_steps_go_ahead_of_fewer_answers(self):
        book = Book(["a", "b", "c"], [("a", "b", True), ("b", "c", True), ("a", "c", True)])
        self.assertEqual(heaviest(book, "a", "c"), (2, 2))
        self.assertEqual(heaviest_walk(book, "a", "c"), [("a", "b", True), ("b", "c", True)])

    def test_with_as_many_steps_more_betters(self):
        # From a to d nobody-can-tell alone takes one step back; not, better, not does so too, with a better.
        book = Book(["a", "b", "c", "d"], [("d", "a", False), ("b", "a", False), ("b", "c", True), ("d", "c", False)])
        self.assertEqual(heaviest(book, "a", "d"), (-1, 1))
        self.assertEqual(heaviest_walk(book, "a", "d"), [("b", "a", False), ("b", "c", True), ("d", "c", False)])

    def test_the_least_of_several(self):
        book = Book(["a", "b", "c", "d"], [("a", "b", True), ("a", "c", True), ("b", "d", True), ("c", "d", True)])
        self.assertEqual(heaviest_walk(book, "a", "d"), [("a", "b", True), ("b", "d", True)])
        swapped = book.renamed({"a": "a", "b": "c", "c": "b", "d": "d"})
        self.assertEqual(heaviest_walk(swapped, "a", "d"), [("a", "b", True), ("b", "d", True)])
        # The least list, not the one through the least things: ("b", "a", False) leads from a to b.
        book = Book(["x", "a", "z", "y"], [("x", "z", True), ("a", "x", False), ("a", "y", True), ("y", "z", False)])
        self.assertEqual(heaviest(book, "x", "y"), (0, 1))
        self.assertEqual(heaviest_walk(book, "x", "y"), [("a", "x", False), ("a", "y", True)])

    def test_all_books_of_three_things(self):
        self.hold_against_all_walks(oracle.all_books(["a", "b", "c"]), 4)

    def test_some_books_of_four_things(self):
        self.hold_against_all_walks(oracle.some_books(["a", "b", "c", "d"], 60, 3), 4)

    def hold_against_all_walks(self, books, most):
        for book in books:
            if not is_possible(book):
                continue
            for x in book.things():
                for y in book.things():
                    walk = oracle.heaviest_walk(book, x, y, most)
                    self.assertEqual(heaviest_walk(book, x, y), walk)
                    self.assertEqual(heaviest(book, x, y), None if walk is None else oracle.weight(walk))

    def test_six_things_and_thirty_answers(self):
        worth = {"a": 0, "b": 3, "c": 6, "d": 9, "e": 12, "f": 15}
        book = Book(list(worth), [(x, y, worth[x] - worth[y] > 4) for x in worth for y in worth if x != y])
        self.assertEqual(len(book), 30)
        for x in worth:
            for y in worth:
                walk = heaviest_walk(book, x, y)
                self.assertIs(is_walk(book, walk), True)
                self.assertEqual(weight_of(walk), heaviest(book, x, y))
                self.assertLessEqual(heaviest(book, x, y)[0] * 4, worth[x] - worth[y])
        # f over d, d over b, a step back from b to c, c over a.
        self.assertEqual(heaviest(book, "f", "a"), (2, 3))

    def test_codes_with_an_answer_more(self):
        for book in oracle.all_books(["a", "b", "c"])[::3] + oracle.some_books(["a", "b", "c", "d", "e", "f"], 10, 104):
            if is_possible(book):
                codes = repr(codes_of(book))
                for x, y in open_pairs(book):
                    for truth in (True, False):
                        more = codes_with(codes_of(book), book.things(), (x, y, truth))
                        self.assertEqual(more, codes_of(book.put((x, y, truth))))
                self.assertEqual(repr(codes_of(book)), codes)

    def test_ring(self):
        book = Book(["a", "b", "c"], [("a", "b", True), ("b", "a", True)])
        for call in (heaviest, heaviest_walk):
            for x, y in (("a", "b"), ("c", "c"), ("a", "c")):
                with self.assertRaises(Ring) as held:
                    call(book, x, y)
                self.assertEqual(held.exception.ring, ring_of(book))

    def test_what_was_returned_is_new(self):
        book = Book(["a", "b"], [("a", "b", True)])
        heaviest_walk(book, "a", "b").clear()
        self.assertEqual(heaviest_walk(book, "a", "b"), [("a", "b", True)])


if __name__ == "__main__":
    unittest.main()
