"""[2], [30] Walks."""

import unittest

from barelybetter.books import Book
from barelybetter.walks import is_walk, things_through, weight_of
from tests import odd

AB = ("a", "b", True)
CB = ("c", "b", False)
CA = ("c", "a", True)
BC = ("b", "c", True)


class WalksTest(unittest.TestCase):

    def setUp(self):
        self.book = Book(["a", "b", "c"], [AB, CB, CA])

    def test_walks(self):
        for walk in ([], [AB], [CB], [CA], [AB, CB], [AB, CB, CA], [CA, AB, CB, CA, AB], [CB, CA, AB]):
            self.assertIs(is_walk(self.book, walk), True)

    def test_no_walks(self):
        for walk in ([AB, AB], [CB, AB], [AB, CA], [AB, BC], [BC], [("b", "a", False)], [("a", "b", False)],
                     [("a", "b", 1)], [AB, ("c", "b", 0)], (AB, CB), (), [[AB]], [AB, None], [["a", "b", True]], AB):
            self.assertIs(is_walk(self.book, walk), False)

    def test_any_value(self):
        for value in odd.values():
            self.assertIs(is_walk(self.book, value), value == [] and isinstance(value, list))

    def test_the_empty_list_is_a_walk_of_any_book(self):
        self.assertIs(is_walk(Book([]), []), True)
        self.assertIs(is_walk(Book(["a"]), []), True)

    def test_a_book_that_is_not_possible(self):
        worse = Book(["a", "b"], [AB, ("b", "a", True)])
        self.assertIs(is_walk(worse, [AB, ("b", "a", True), AB]), True)
        self.assertIs(is_walk(worse, [AB, AB]), False)

    def test_a_long_walk(self):
        self.assertIs(is_walk(self.book, [AB, CB, CA] * 1500), True)
        self.assertEqual(weight_of([AB, CB, CA] * 1500), (1500, 3000))

    def test_weights(self):
        self.assertEqual(weight_of([]), (0, 0))
        self.assertEqual(weight_of([AB]), (1, 1))
        self.assertEqual(weight_of([CB]), (-1, 0))
        self.assertEqual(weight_of([AB, CB]), (0, 1))
        self.assertEqual(weight_of([AB, CB, CA]), (1, 2))
        self.assertEqual(weight_of([("b", "a", False), ("c", "b", False)]), (-2, 0))
        self.assertIsInstance(weight_of([AB]), tuple)

    def test_things(self):
        self.assertEqual(things_through([AB]), ["a", "b"])
        self.assertEqual(things_through([CB]), ["b", "c"])
        self.assertEqual(things_through([AB, CB, CA]), ["a", "b", "c", "a"])
        walk = [AB, CB]
        things_through(walk).append("x")
        self.assertEqual((things_through(walk), walk), (["a", "b", "c"], [AB, CB]))


if __name__ == "__main__":
    unittest.main()
