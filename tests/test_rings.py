"""[2], [31] Rings."""

import unittest

from barelybetter.books import Book
from barelybetter.rings import is_possible, is_ring, ring_of
from tests import odd, oracle

A_B, B_A, B_C, C_A = ("a", "b", True), ("b", "a", True), ("b", "c", True), ("c", "a", True)
NOT_AC, NOT_CB = ("a", "c", False), ("c", "b", False)


class RingsTest(unittest.TestCase):

    def test_no_things_and_one_thing(self):
        for book in (Book([]), Book(["a"]), Book(["a", "b"]), Book(["a", "b"], [A_B])):
            self.assertIsNone(ring_of(book))
            self.assertIs(is_possible(book), True)

    def test_two_betters(self):
        book = Book(["a", "b"], [B_A, A_B])
        self.assertEqual(ring_of(book), [A_B, B_A])
        self.assertIs(is_possible(book), False)

    def test_nobody_can_tell_is_no_ring(self):
        book = Book(["a", "b", "c"], [(x, y, False) for x in "abc" for y in "abc" if x != y])
        self.assertIsNone(ring_of(book))
        self.assertIs(is_possible(book), True)

    def test_a_ring_of_just_no_steps(self):
        book = Book(["a", "b", "c", "d"], [A_B, B_C, ("a", "d", False), ("d", "c", False)])
        self.assertEqual(ring_of(book), [A_B, B_C, ("d", "c", False), ("a", "d", False)])
        self.assertIs(is_ring(book, ring_of(book)), True)
        self.assertIs(is_possible(book), False)

    def test_a_ring_of_one_step(self):
        self.assertEqual(ring_of(Book(["a", "b", "c"], [A_B, B_C, NOT_AC])), [A_B, B_C, NOT_AC])

    def test_one_step_less_than_none_is_no_ring(self):
        book = Book(["a", "b", "c"], [A_B, NOT_CB, NOT_AC])
        self.assertIsNone(ring_of(book))
        self.assertIs(is_ring(book, [A_B, NOT_CB, NOT_AC]), False)

    def test_the_fewest_answers(self):
        book = Book(["a", "b", "c", "x", "y"], [A_B, B_C, C_A, ("x", "y", True), ("y", "x", True)])
        self.assertEqual(ring_of(book), [("x", "y", True), ("y", "x", True)])

    def test_the_least_of_several(self):
        book = Book(["a", "b", "c"], [A_B, B_A, B_C, ("c", "b", True)])
        self.assertEqual(ring_of(book), [A_B, B_A])
        self.assertEqual(ring_of(book.out(A_B)), [B_C, ("c", "b", True)])
        # False is less than True, and stands ahead in the least ring if its pair is less.
        book = Book(["a", "b", "c"], [("a", "c", False), ("b", "c", True), ("a", "b", True)])
        self.assertEqual(ring_of(book)[0], ("a", "b", True))
        book = Book(["a", "b", "c"], [("a", "b", False), ("c", "b", True), ("a", "c", True)])
        self.assertEqual(ring_of(book), [("a", "b", False), ("a", "c", True), ("c", "b", True)])

    def test_is_ring(self):
        book = Book(["a", "b", "c"], [A_B, B_C, NOT_AC, C_A])
        for ring in ([A_B, B_C, NOT_AC], [B_C, NOT_AC, A_B], [A_B, B_C, C_A], [A_B, B_C, NOT_AC, A_B, B_C, C_A]):
            self.assertIs(is_ring(book, ring), True)
        for thing in ([], [A_B], [A_B, B_C], (A_B, B_C, C_A), [A_B, C_A, B_C], [A_B, B_C, ("a", "c", 0)], None):
            self.assertIs(is_ring(book, thing), False)

    def test_is_ring_needs_steps(self):
        book = Book(["a", "b"], [("a", "b", False), ("b", "a", False)])
        self.assertIs(is_ring(book, [("a", "b", False), ("b", "a", False)]), False)

    def test_is_ring_of_any_value(self):
        book = Book(["a", "b"], [A_B, B_A])
        for value in odd.values():
            self.assertIs(is_ring(book, value), False)

    def test_all_books_of_three_things(self):
        for book in oracle.all_books(["a", "b", "c"]):
            ring = ring_of(book)
            self.assertEqual(ring, oracle.least_ring(book, 3))
            self.assertIs(is_possible(book), ring is None)
            self.assertEqual(is_possible(book), len(oracle.fitting(book)) > 0)
            if ring is not None:
                self.assertIs(is_ring(book, ring), True)

    def test_some_books_of_four_and_five_things(self):
        for book in oracle.some_books(["a", "b", "c", "d"], 200, 1):
            self.assertEqual(ring_of(book), oracle.least_ring(book, 4))
            self.assertEqual(is_possible(book), len(oracle.fitting(book)) > 0)
        for book in oracle.some_books(["a", "b", "c", "d", "e"], 40, 2):
            self.assertEqual(ring_of(book), oracle.least_ring(book, 5))

    def test_a_ring_through_all_six_things(self):
        names = "abcdef"
        answers = [(x, y, True) for x, y in zip("abc", "bcd")]
        answers += [("e", "d", False), ("f", "e", False), ("a", "f", False)]
        book = Book(list(names), answers)
        self.assertEqual(ring_of(book), answers)
        self.assertIsNone(ring_of(book.out(("b", "c", True))))

    def test_what_was_returned_is_new(self):
        book = Book(["a", "b"], [A_B, B_A])
        ring_of(book).clear()
        self.assertEqual(ring_of(book), [A_B, B_A])
        self.assertEqual(book.answers(), [A_B, B_A])


if __name__ == "__main__":
    unittest.main()
