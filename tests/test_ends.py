"""[2], [4], [41] What is sure, and how far things are apart."""

import unittest

from barelybetter.books import Book
from barelybetter.ends import apart, follow, is_sure, is_why, open_pairs, surely, why
from barelybetter.errors import Clash, NoThing, Ring
from barelybetter.kinds import contrary
from barelybetter.rings import is_possible, ring_of
from tests import odd, oracle

THINGS = ["a", "b", "c"]
RINGS = Book(THINGS, [("a", "b", True), ("b", "a", True), ("b", "c", True)])


def possible(books):
    return [book for book in books if is_possible(book)]


class ApartTest(unittest.TestCase):

    def test_a_thing_from_itself(self):
        for book in (Book(["a"]), Book(["a", "b"], [("a", "b", True)])):
            self.assertEqual(apart(book, "a", "a"), ((0, True), (0, True)))

    def test_no_bounds(self):
        self.assertEqual(apart(Book(["a", "b"]), "a", "b"), (None, None))

    def test_bounds_that_are_reached_and_that_are_not(self):
        self.assertEqual(apart(Book(["a", "b"], [("a", "b", True)]), "a", "b"), ((1, False), None))
        self.assertEqual(apart(Book(["a", "b"], [("a", "b", True)]), "b", "a"), (None, (-1, False)))
        self.assertEqual(apart(Book(["a", "b"], [("a", "b", False)]), "a", "b"), (None, (1, True)))
        self.assertEqual(apart(Book(["a", "b"], [("a", "b", False)]), "b", "a"), ((-1, True), None))
        book = Book(THINGS, [("a", "b", True), ("c", "b", False)])
        self.assertEqual(apart(book, "a", "c"), ((0, False), None))

    def test_reached_is_a_truth(self):
        least, greatest = apart(Book(["a", "b"], [("a", "b", False), ("b", "a", False)]), "a", "b")
        self.assertEqual((least, greatest), ((-1, True), (1, True)))
        self.assertIs(least[1], True)
        self.assertIs(greatest[1], True)

    def test_against_all_worths_of_three_things(self):
        # Steps of 4 are fine enough: an end that is not reached is missed by as many as its betters, at most 2.
        step, reach = 4, 6 * 4
        ends = {}
        for a in range(reach + 1):
            for b in range(reach + 1):
                for c in range(reach + 1):
                    worth = {"a": a, "b": b, "c": c}
                    if min(a, b, c) == 0:
                        table = frozenset((x, y) for x in THINGS for y in THINGS if worth[x] - worth[y] > step)
                        for x in THINGS:
                            for y in THINGS:
                                ends.setdefault((table, x, y), []).append(worth[x] - worth[y])
        ends = {key: (min(row), max(row)) for key, row in ends.items()}
        for book in possible(oracle.all_books(THINGS)):
            tables = oracle.fitting(book)
            for x in THINGS:
                for y in THINGS:
                    low = min(ends[table, x, y][0] for table in tables)
                    high = max(ends[table, x, y][1] for table in tables)
                    least = None if low < -3 * step else (low // step, low % step == 0)
                    greatest = None if high > 3 * step else (-(-high // step), high % step == 0)
                    self.assertEqual(apart(book, x, y), (least, greatest), (book.answers(), x, y))


class SureTest(unittest.TestCase):

    def test_no_answers(self):
        book = Book(THINGS)
        self.assertTrue(surely(book) == book)
        self.assertEqual(open_pairs(book), book.untold())
        self.assertIs(is_sure(book, ("a", "b", False)), False)
        self.assertIsNone(why(book, ("a", "b", False)))
        self.assertTrue(surely(Book([])) == Book([]))
        self.assertEqual((open_pairs(Book([])), open_pairs(Book(["a"]))), ([], []))

    def test_its_own_answers_are_sure(self):
        book = Book(THINGS, [("a", "b", True), ("c", "b", False)])
        for answer in book:
            self.assertIs(is_sure(book, answer), True)
            self.assertEqual(why(book, answer), [answer])
            self.assertIs(is_why(book, answer, [answer]), True)

    def test_what_is_better_is_not_worse(self):
        book = Book(["a", "b"], [("a", "b", True)])
        self.assertIs(is_sure(book, ("b", "a", False)), True)
        self.assertEqual(why(book, ("b", "a", False)), [("a", "b", True)])
        self.assertIs(is_sure(book, ("b", "a", True)), False)
        self.assertIsNone(why(book, ("b", "a", True)))
        self.assertIs(is_sure(book, ("a", "b", False)), False)

    def test_all_books_of_three_things(self):
        for book in possible(oracle.all_books(THINGS)):
            self.hold_against_tables(book, 4)

    def test_some_books_of_four_things(self):
        for book in possible(oracle.some_books(THINGS + ["d"], 60, 4)):
            self.hold_against_tables(book, 4)

    def hold_against_tables(self, book, most):
        sure = oracle.sure_answers(book)
        self.assertEqual(surely(book).answers(), sure)
        self.assertEqual(surely(book).things(), book.things())
        pairs = {(x, y) for x, y, _ in sure}
        self.assertEqual(open_pairs(book), [
            (x, y) for x in book.things() for y in book.things() if x != y and (x, y) not in pairs])
        for answer in oracle.answers_about(book.things()):
            self.assertIs(is_sure(book, answer), answer in sure)
            walk = why(book, answer)
            self.assertEqual(walk, oracle.least_why(book, answer, most))
            self.assertEqual(walk is not None, answer in sure)
            if walk is not None:
                self.assertIs(is_why(book, answer, walk), True)
                self.assertIs(is_why(book, contrary(answer), walk), False)

    def test_the_least_of_several_walks(self):
        things = ["a", "b", "c", "d"]
        book = Book(things, [("a", "b", True), ("a", "c", True), ("b", "d", True), ("c", "d", True)])
        self.assertEqual(why(book, ("a", "d", True)), [("a", "b", True), ("b", "d", True)])
        self.assertEqual(why(book, ("d", "a", False)), [("a", "b", True), ("b", "d", True)])

    def test_the_fewest_answers_not_the_most_steps(self):
        book = Book(THINGS, [("a", "b", True), ("a", "c", True), ("b", "c", True)])
        self.assertEqual(why(book, ("a", "c", True)), [("a", "c", True)])

    def test_is_why(self):
        book = Book(THINGS, [("a", "b", True), ("a", "c", True), ("b", "c", True), ("c", "b", False)])
        for walk in ([("a", "c", True)], [("a", "b", True), ("b", "c", True)]):
            self.assertIs(is_why(book, ("a", "c", True), walk), True)
            self.assertIs(is_why(book, ("c", "a", False), walk), True)
            self.assertIs(is_why(book, ("a", "c", False), walk), False)
            self.assertIs(is_why(book, ("c", "a", True), walk), False)
            self.assertIs(is_why(book, ("a", "b", True), walk), False)
        for thing in ([], [("a", "c", False)], [("b", "c", True)], [("a", "b", True)], (("a", "c", True),),
                      [("a", "c", 1)], [["a", "c", True]], [("b", "c", True), ("a", "b", True)], None):
            self.assertIs(is_why(book, ("a", "c", True), thing), False)

    def test_is_why_with_a_way_round(self):
        # The way from b round to b loses one step, so once is few enough, and twice is not.
        ahead, behind = [("a", "b", True)], [("b", "c", True)]
        around = [("b", "d", True), ("e", "d", False), ("b", "e", False)]
        book = Book(["a", "b", "c", "d", "e"], ahead + behind + around)
        self.assertIs(is_possible(book), True)
        self.assertIs(is_why(book, ("a", "c", True), ahead + around + behind), True)
        self.assertIs(is_why(book, ("a", "c", True), ahead + around + around + behind), False)
        self.assertIs(is_why(book, ("c", "a", False), ahead + around + around + around + behind), True)
        self.assertIs(is_why(book, ("c", "a", False), ahead + around * 4 + behind), False)

    def test_is_why_of_any_value(self):
        book = Book(["a", "b"], [("a", "b", True)])
        for value in odd.values():
            self.assertIs(is_why(book, ("a", "b", True), value), False)

    def test_not_by_one_step_back_more(self):
        # Of a walk with -1 steps it is sure that x is not better, of one with -2 it is not.
        book = Book(THINGS, [("a", "b", False), ("b", "c", False)])
        self.assertIs(is_sure(book, ("a", "b", False)), True)
        self.assertIs(is_sure(book, ("a", "c", False)), False)
        self.assertIs(is_why(book, ("a", "c", False), [("b", "c", False), ("a", "b", False)]), False)
        # Of one with 0 steps x is worth more, and no more is sure.
        book = Book(THINGS, [("a", "b", True), ("c", "b", False)])
        self.assertIs(is_sure(book, ("a", "c", True)), False)
        self.assertIs(is_sure(book, ("c", "a", False)), True)
        self.assertEqual(why(book, ("c", "a", False)), [("a", "b", True), ("c", "b", False)])


class FollowTest(unittest.TestCase):

    def test_against_tables(self):
        for book in possible(oracle.all_books(THINGS)):
            before = oracle.sure_answers(book)
            for answer in oracle.answers_about(THINGS):
                if contrary(answer) in before:
                    continue
                after = oracle.sure_answers(book.put(answer))
                self.assertEqual(follow(book, answer), [one for one in after if one not in before])

    def test_an_answer_that_was_sure_already(self):
        book = Book(["a", "b"], [("a", "b", True)])
        self.assertEqual(follow(book, ("b", "a", False)), [])
        self.assertEqual(follow(book, ("a", "b", True)), [])

    def test_this_answer_too(self):
        self.assertEqual(follow(Book(["a", "b"]), ("a", "b", True)), [("a", "b", True), ("b", "a", False)])
        self.assertEqual(follow(Book(["a", "b"]), ("a", "b", False)), [("a", "b", False)])

    def test_errors(self):
        book = Book(THINGS, [("a", "b", True)])
        for answer, name in ((("x", "y", True), "x"), (("y", "x", True), "y"), (("a", "y", False), "y")):
            with self.assertRaises(NoThing) as held:
                follow(book, answer)
            self.assertEqual(held.exception.thing, name)
        with self.assertRaises(Clash) as held:
            follow(book, ("a", "b", False))
        self.assertEqual(held.exception.pair, ("a", "b"))
        with self.assertRaises(Ring) as held:
            follow(book, ("b", "a", True))
        self.assertEqual(held.exception.ring, [("a", "b", True), ("b", "a", True)])
        self.assertEqual(book.answers(), [("a", "b", True)])

    def test_the_ring_of_the_book_comes_first(self):
        for answer in (("x", "y", True), ("a", "b", False), ("c", "b", True), ("a", "c", True)):
            with self.assertRaises(Ring) as held:
                follow(RINGS, answer)
            self.assertEqual(held.exception.ring, ring_of(RINGS))


class RingTest(unittest.TestCase):

    def test_books_that_are_not_possible(self):
        answer = ("a", "c", True)
        for call, given in (
                (apart, ("a", "b")), (apart, ("c", "c")), (is_sure, (answer,)), (is_sure, (("a", "b", True),)),
                (why, (answer,)), (is_why, (answer, None)), (is_why, (answer, [answer])), (is_why, (answer, [])),
                (surely, ()), (open_pairs, ()), (follow, (answer,))):
            with self.assertRaises(Ring) as held:
                call(RINGS, *given)
            self.assertEqual(held.exception.ring, ring_of(RINGS))
            self.assertEqual(held.exception.ring, [("a", "b", True), ("b", "a", True)])


if __name__ == "__main__":
    unittest.main()
