"""[3], [4], [21] Books."""

import unittest

from barelybetter.books import Book
from barelybetter.errors import Clash, NoAnswer, NoPair, NoThing, Wrong
from tests import odd
from tests.odd import are_things, caught

AB = ("a", "b", True)
BA = ("b", "a", False)
BC = ("b", "c", True)
NOT_AB = ("a", "b", False)


class BookBuildTest(unittest.TestCase):

    def test_no_things_and_no_answers(self):
        for empty in (Book([]), Book(()), Book([], []), Book((), ()), Book([], ()), Book([], answers=[])):
            self.assertEqual((empty.things(), empty.answers(), empty.untold(), len(empty), list(empty)),
                             ([], [], [], 0, []))
            self.assertTrue(empty == Book([]))

    def test_things_and_answers_ascend(self):
        book = Book(("c", "a", "b"), (BC, BA, AB))
        self.assertEqual(book.things(), ["a", "b", "c"])
        self.assertEqual(book.answers(), [AB, BA, BC])
        self.assertEqual(list(book), [AB, BA, BC])
        self.assertEqual(book.untold(), [("a", "c"), ("c", "a"), ("c", "b")])
        self.assertEqual(len(book), 3)

    def test_false_goes_ahead_by_the_pair_alone(self):
        book = Book(["b", "a"], [("b", "a", False), ("a", "b", True)])
        self.assertEqual(book.answers(), [("a", "b", True), ("b", "a", False)])

    def test_an_answer_several_times_is_one(self):
        book = Book(["a", "b"], [AB, AB, BA, AB])
        self.assertEqual((len(book), book.answers()), (2, [AB, BA]))

    def test_what_a_caller_changes_changes_no_book(self):
        things, answers = ["a", "b", "c"], [AB]
        book = Book(things, answers)
        things.append("d")
        answers.append(BC)
        self.assertEqual((book.things(), book.answers(), len(book)), (["a", "b", "c"], [AB], 1))
        book.things().append("d")
        book.answers().append(BC)
        book.untold().clear()
        list(book).clear()
        self.assertEqual((book.things(), book.answers(), len(book.untold())), (["a", "b", "c"], [AB], 5))
        self.assertIsNot(book.things(), book.things())
        self.assertIsNot(book.answers(), book.answers())
        self.assertIsNot(book.untold(), book.untold())

    def test_arguments_stay_as_they_are(self):
        things, answers = ["c", "b", "a"], [BC, AB]
        Book(things, answers)
        self.assertEqual((things, answers), (["c", "b", "a"], [BC, AB]))

    def test_wrong_things(self):
        for value in odd.values():
            if are_things(value):
                self.assertEqual(Book(value).things(), sorted(value))
            else:
                self.assertEqual(caught(Book, value).place, 0, value)
                self.assertIsInstance(caught(Book, value), Wrong)

    def test_wrong_answers(self):
        for value in odd.values():
            if value == [] or value == ():
                self.assertEqual(len(Book(["a", "b"], value)), 0)
            else:
                error = caught(Book, ["a", "b"], value)
                self.assertIsInstance(error, Wrong)
                self.assertEqual(error.place, 1)

    def test_one_wrong_answer_among_right_ones(self):
        for bad in (("a", "b", 1), ("a", "b", 0), ("a", "a", True), ["a", "b", True], ("a", "b"), None, "ab"):
            self.assertEqual(caught(Book, ["a", "b"], [AB, bad, BA]).place, 1)

    def test_names_of_eight_and_of_nine_letters(self):
        self.assertEqual(Book(["abcdefgh"]).things(), ["abcdefgh"])
        self.assertEqual(caught(Book, ["abcdefghi"]).place, 0)
        self.assertEqual(caught(Book, [""]).place, 0)
        self.assertEqual(caught(Book, ["a", "abcdefgh"], [("a", "abcdefghi", True)]).place, 1)

    def test_no_thing(self):
        for answers, stranger in (
                ([("a", "x", True)], "x"), ([("x", "a", True)], "x"), ([("x", "y", True)], "x"),
                ([AB, ("y", "x", False), ("p", "q", True)], "y"), ([("b", "y", False), ("x", "a", True)], "y")):
            error = caught(Book, ["a", "b"], answers)
            self.assertIsInstance(error, NoThing)
            self.assertEqual(error.thing, stranger)

    def test_clash(self):
        error = caught(Book, ["a", "b"], [AB, NOT_AB])
        self.assertIsInstance(error, Clash)
        self.assertEqual(error.pair, ("a", "b"))
        answers = [("b", "c", True), ("a", "b", False), ("b", "c", False), ("a", "b", True)]
        self.assertEqual(caught(Book, ["a", "b", "c"], answers).pair, ("b", "c"))
        self.assertEqual(caught(Book, ["a", "b", "c"], tuple(answers[1:])).pair, ("a", "b"))

    def test_the_order_of_the_errors(self):
        clashing = [("x", "y", True), ("x", "y", False)]
        self.assertEqual(caught(Book, ["a", "a"], None).place, 0)
        self.assertEqual(caught(Book, ["a"], clashing + [None]).place, 1)
        self.assertEqual(caught(Book, ["a"], clashing).thing, "x")
        self.assertEqual(caught(Book, ["a", "b"], [AB, NOT_AB, ("b", "z", True)]).thing, "z")
        self.assertIsInstance(caught(Book, ["x", "y"], clashing), Clash)

    def test_many_things_and_answers(self):
        names = [x + y + z for x in "abcdefghijklmnop" for y in "abcdefghijklmnop" for z in "abcdefghijklmnop"]
        answers = [(x, y, True) for x, y in zip(names, names[1:])]
        book = Book(names, answers)
        self.assertEqual((len(book), book.things()), (len(names) - 1, names))
        self.assertIs(book[names[0], names[1]], True)


class BookAskTest(unittest.TestCase):

    def setUp(self):
        self.book = Book(["a", "b", "c"], [AB, BA, ("c", "a", False)])

    def test_getting(self):
        self.assertIs(self.book["a", "b"], True)
        self.assertIs(self.book["b", "a"], False)
        self.assertIs(self.book[("c", "a")], False)
        self.assertIsNone(self.book["a", "c"])
        self.assertIsNone(Book(["a", "b"])["b", "a"])

    def test_no_pair(self):
        for value in odd.values() + [("a", "d"), ("d", "a"), ("a", "a"), ("a", "b", True), ["a", "b"], "ab"]:
            if value == ("a", "b"):
                continue
            with self.assertRaises(NoPair) as held:
                self.book[value]
            self.assertIs(held.exception.pair, value)

    def test_in(self):
        for answer in (AB, BA, ("c", "a", False)):
            self.assertIs(answer in self.book, True)
        for value in odd.values() + [NOT_AB, ("b", "a", True), ("a", "c", False), ("a", "c", True), ("a", "b", 1),
                                     ("b", "a", 0), ["a", "b", True], ("a", "b"), ("x", "y", True)]:
            self.assertIs(value in self.book, False)

    def test_a_book_is_iterated_as_often_as_asked(self):
        self.assertEqual([(x, y) for x in self.book for y in self.book],
                         [(x, y) for x in self.book.answers() for y in self.book.answers()])

    def test_equality(self):
        self.assertTrue(self.book == Book(("c", "b", "a"), (("c", "a", False), BA, AB, AB)))
        self.assertFalse(self.book != Book(("c", "b", "a"), (("c", "a", False), BA, AB)))
        for other in (Book(["a", "b", "c"]), Book(["a", "b", "c", "d"], self.book.answers()),
                      Book(["a", "b", "c"], [AB, BA, ("c", "a", True)]), Book(["a", "b", "c"], [AB, BA])):
            self.assertFalse(self.book == other)
            self.assertTrue(self.book != other)
        for other in odd.values()[:-6] + [self.book.answers(), tuple(self.book.answers()), "Book"]:
            if not isinstance(other, Book):
                self.assertIs(self.book == other, False)
                self.assertIs(other == self.book, False)
                self.assertIs(self.book != other, True)

    def test_an_empty_book_is_equal_to_no_empty_list(self):
        for other in ([], (), {}, None, 0, False, ""):
            self.assertIs(Book([]) == other, False)

    def test_within(self):
        self.assertIs(self.book.within(self.book), True)
        self.assertIs(Book([]).within(self.book), True)
        self.assertIs(Book(["a", "b"], [AB]).within(self.book), True)
        self.assertIs(Book(["a", "d"]).within(self.book), False)
        self.assertIs(Book(["a", "b"], [NOT_AB]).within(self.book), False)
        self.assertIs(Book(["a", "c"], [("a", "c", True)]).within(self.book), False)
        self.assertIs(self.book.within(Book([])), False)
        self.assertIs(self.book.within(Book(["a", "b", "c"])), False)


class BookChangeTest(unittest.TestCase):

    def setUp(self):
        self.book = Book(["a", "b", "c"], [AB, BC])

    def tearDown(self):
        self.assertEqual((self.book.things(), self.book.answers()), (["a", "b", "c"], [AB, BC]))

    def test_put(self):
        more = self.book.put(("a", "c", False))
        self.assertEqual(more.answers(), [AB, ("a", "c", False), BC])
        self.assertEqual(more.things(), ["a", "b", "c"])

    def test_put_what_stands(self):
        again = self.book.put(AB)
        self.assertTrue(again == self.book)
        self.assertIsNot(again, self.book)

    def test_put_wrong(self):
        for value in odd.values():
            error = caught(self.book.put, value)
            self.assertIsInstance(error, Wrong)
            self.assertEqual(error.place, 0)

    def test_put_no_thing_and_clash(self):
        self.assertEqual(caught(self.book.put, ("x", "y", True)).thing, "x")
        self.assertEqual(caught(self.book.put, ("y", "x", True)).thing, "y")
        self.assertEqual(caught(self.book.put, ("a", "y", True)).thing, "y")
        self.assertIsInstance(caught(self.book.put, ("a", "y", True)), NoThing)
        error = caught(self.book.put, NOT_AB)
        self.assertIsInstance(error, Clash)
        self.assertEqual(error.pair, ("a", "b"))

    def test_out(self):
        self.assertTrue(self.book.out(AB) == Book(["a", "b", "c"], [BC]))
        self.assertTrue(self.book.out(AB).out(BC) == Book(["a", "b", "c"]))
        self.assertTrue(self.book.out(AB).put(AB) == self.book)

    def test_out_of_none_of_its_answers(self):
        for value in odd.values() + [NOT_AB, BA, ("a", "b", 1), ("x", "y", True), ["a", "b", True]]:
            error = caught(self.book.out, value)
            self.assertIsInstance(error, NoAnswer)
            self.assertIs(error.answer, value)

    def test_only(self):
        self.assertTrue(self.book.only(["b", "a"]) == Book(["a", "b"], [AB]))
        self.assertTrue(self.book.only(["c", "a"]) == Book(["a", "c"]))
        self.assertTrue(self.book.only([]) == Book([]))
        self.assertTrue(self.book.only(["c", "b", "a"]) == self.book)
        things = ["c", "b"]
        self.assertEqual(self.book.only(things).answers(), [BC])
        self.assertEqual(things, ["c", "b"])

    def test_renamed(self):
        names = {"c": "a", "a": "b", "b": "zebra"}
        turned = self.book.renamed(names)
        self.assertEqual(turned.things(), ["a", "b", "zebra"])
        self.assertEqual(turned.answers(), [("b", "zebra", True), ("zebra", "a", True)])
        self.assertEqual(names, {"c": "a", "a": "b", "b": "zebra"})
        self.assertTrue(self.book.renamed({"a": "a", "b": "b", "c": "c"}) == self.book)
        self.assertTrue(Book([]).renamed({}) == Book([]))

    def test_renamed_does_not_hang_on_the_order_of_the_keys(self):
        one = self.book.renamed({"a": "c", "b": "a", "c": "b"})
        other = self.book.renamed({"c": "b", "b": "a", "a": "c"})
        self.assertTrue(one == other)
        self.assertTrue(one.renamed({"c": "a", "a": "b", "b": "c"}) == self.book)


class BookOperatorsTest(unittest.TestCase):

    def test_both(self):
        one, other = Book(["a", "b"], [AB]), Book(["c", "b"], [BC])
        self.assertTrue(one | other == Book(["a", "b", "c"], [AB, BC]))
        self.assertTrue(other | one == one | other)
        self.assertTrue(one | one == one)
        self.assertTrue(one | Book([]) == one)

    def test_both_clash(self):
        things = ["a", "b", "c"]
        one = Book(things, [BC, NOT_AB, ("c", "a", True)])
        other = Book(things, [("c", "a", False), ("b", "c", False), ("a", "c", True)])
        for left, right in ((one, other), (other, one)):
            with self.assertRaises(Clash) as held:
                left | right
            self.assertEqual(held.exception.pair, ("b", "c"))

    def test_common(self):
        one, other = Book(["a", "b", "c"], [AB, BC]), Book(["a", "b", "d"], [AB, BA])
        self.assertTrue(one & other == Book(["a", "b"], [AB]))
        self.assertTrue(one & Book(["a", "b", "c"], [NOT_AB, BC]) == Book(["a", "b", "c"], [BC]))
        self.assertTrue(one & Book([]) == Book([]))

    def test_less(self):
        one, other = Book(["a", "b", "c"], [AB, BC]), Book(["a", "b", "d"], [AB, BA])
        self.assertTrue(one - other == Book(["a", "b", "c"], [BC]))
        self.assertTrue(one - Book(["a", "b"], [NOT_AB]) == one)
        self.assertTrue(one - one == Book(["a", "b", "c"]))

    def test_turned_about(self):
        one = Book(["a", "b", "c"], [AB, ("c", "a", False)])
        self.assertTrue(~one == Book(["a", "b", "c"], [("b", "a", True), ("a", "c", False)]))
        self.assertTrue(~~one == one)
        self.assertIs((~one)["a", "c"], False)

    def test_operands_stay_as_they_are(self):
        one, other = Book(["a", "b"], [AB]), Book(["b", "c"], [BC])
        for _ in range(2):
            self.assertEqual(len(one | other), 2)
            self.assertEqual((len(one & other), len(one - other), len(~one)), (0, 1, 1))
        self.assertEqual((one.things(), one.answers()), (["a", "b"], [AB]))
        self.assertEqual((other.things(), other.answers()), (["b", "c"], [BC]))


if __name__ == "__main__":
    unittest.main()
