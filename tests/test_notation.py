"""[2], [3], [90] Texts."""

import unittest

from barelybetter.books import Book
from barelybetter.ends import apart
from barelybetter.notation import show_answer, show_book, show_end, show_scale, show_table, show_walk
from barelybetter.scales import Scale
from barelybetter.tables import Table

A_B, B_C = ("a", "b", True), ("b", "c", False)


class NotationTest(unittest.TestCase):

    def test_answers_and_walks(self):
        self.assertEqual([show_answer(A_B), show_answer(B_C)], ["a better b", "b not c"])
        self.assertEqual(show_answer(("milkmilk", "a", False)), "milkmilk not a")
        self.assertEqual([show_walk([]), show_walk([A_B]), show_walk([A_B, B_C, A_B])],
                         ["-", "a better b", "a better b, b not c, a better b"])

    def test_books(self):
        self.assertEqual(show_book(Book([])), "things\n")
        self.assertEqual(show_book(Book(["tea", "milk"])), "things milk tea\n")
        self.assertEqual(show_book(Book(["c", "b", "a"], [B_C, A_B])), "things a b c\na better b\nb not c\n")
        # Also of one that is not possible.
        self.assertEqual(show_book(Book(["b", "a"], [("b", "a", True), A_B])), "things a b\na better b\nb better a\n")
        self.assertEqual(show_book(Book(["b", "a", "ab"], [("b", "a", True), ("ab", "a", False), ("a", "ab", False)])),
                         "things a ab b\na not ab\nab not a\nb better a\n")

    def test_tables(self):
        self.assertEqual(show_table(Table([], [])), "things\n")
        self.assertEqual(show_table(Table(["b", "a"], [])), "things a b\n")
        self.assertEqual(show_table(Table(["c", "b", "a"], [("a", "c"), ("a", "b")])), "things a b c\na better b\na better c\n")

    def test_scales(self):
        self.assertEqual(show_scale(Scale({}, 1)), "step 1\n")
        self.assertEqual(show_scale(Scale({"b": -5, "a": 0, "c": 12}, 3)), "step 3\na 0\nb -5\nc 12\n")
        far = 10 ** 29
        self.assertEqual(show_scale(Scale({"a": far, "b": -far}, far)),
                         "step 1" + "0" * 29 + "\na 1" + "0" * 29 + "\nb -1" + "0" * 29 + "\n")

    def test_ends(self):
        self.assertEqual([show_end(end) for end in (None, (0, True), (0, False), (-3, True), (12, False), (10 ** 39, True))],
                         ["none", "0 reached", "0", "-3 reached", "12", "1" + "0" * 39 + " reached"])
        book = Book(["a", "b"], [A_B, ("b", "a", False)])
        self.assertEqual([show_end(end) for end in apart(book, "a", "b") + apart(book, "b", "a") + apart(book, "a", "a")],
                         ["1", "none", "none", "-1", "0 reached", "0 reached"])

    def test_arguments_stay(self):
        walk, book = [A_B, B_C], Book(["c", "b", "a"], [B_C, A_B])
        show_walk(walk)
        show_book(book)
        self.assertEqual((walk, book.things(), book.answers()), ([A_B, B_C], ["a", "b", "c"], [A_B, B_C]))


if __name__ == "__main__":
    unittest.main()
