"""[3], [4], [7], [8], [71] Questions."""

import unittest

from barelybetter.books import Book
from barelybetter.ends import open_pairs
from barelybetter.errors import Ring, TooMany
from barelybetter.questions import asking, best_question, fewest_questions, is_asking
from barelybetter.rings import is_possible, ring_of
from barelybetter.spaces import Space
from barelybetter.tables import Table, only_table
from barelybetter.walls import walls_of
from tests import odd, oracle
from tests.odd import caught

ABC = ["a", "b", "c"]
FOUR = ["a", "b", "c", "d"]
SIX = ["a", "b", "c", "d", "e", "f"]
FREE = Book(ABC)
AB, BA = ("a", "b"), ("b", "a")
TWO = Book(["a", "b"])


def depth_of(tree):
    return 0 if tree is None else 1 + max(depth_of(tree[1]), depth_of(tree[2]))


def is_asking_by_words(book, tree):
    """Tell by tables whether a tree is an asking; all of its parts have to be of the right kinds."""
    if tree is None:
        return len(oracle.fitting(book)) == 1
    pair, better, other = tree
    if pair not in open_pairs(book):
        return False
    return is_asking_by_words(book.put((*pair, True)), better) and is_asking_by_words(book.put((*pair, False)), other)


def least_depth(tables, pairs):
    """Return the least depth of an asking of some tables, by trying all up to a depth."""
    depth = 0
    while not can_tell(tables, pairs, depth):
        depth += 1
    return depth


def can_tell(tables, pairs, depth):
    if len(tables) == 1:
        return True
    if len(tables) > 2 ** depth:
        return False
    for pair in pairs:
        sides = [[one for one in tables if (pair in one) == truth] for truth in (True, False)]
        if all(sides) and all(can_tell(side, pairs, depth - 1) for side in sides):
            return True
    return False


def possible_books(most):
    books = oracle.all_books(ABC) + oracle.some_books(FOUR, 80, 91)
    return [book for book in books if is_possible(book) and len(oracle.fitting(book)) <= most]


def trees_changed(tree):
    """Return trees that are changed in one place, at any depth."""
    if tree is None:
        return [False, (), (None, None, None), 0, "", []]
    pair, better, other = tree
    found = [None, list(tree), tree + (None,), tree[:2], (pair[::-1], better, other), (list(pair), better, other),
             (pair, other, better), (("a", "a"), better, other), (None, better, other), (("a", "zz"), better, other)]
    found += [(pair, changed, other) for changed in trees_changed(better)]
    return found + [(pair, better, changed) for changed in trees_changed(other)]


class QuestionsTest(unittest.TestCase):

    def test_one_table_alone(self):
        books = [Book([]), Book(["a"]), Table(ABC, [("a", "c")]).full_book(),
                 Book(ABC, [("a", "b", True), ("b", "c", True)])]
        for book in books:
            self.assertEqual((best_question(book), fewest_questions(book), asking(book)), (None, 0, None))
            self.assertEqual((best_question(book, most=1), fewest_questions(book, most=1), asking(book, most=1)),
                             (None, 0, None))
            self.assertIs(is_asking(book, None), True)

    def test_best_question(self):
        self.assertEqual(best_question(FREE), ("a", "b"))
        for book in possible_books(400):
            tables = oracle.fitting(book)
            sides = [(max(sum(pair in one for one in tables), sum(pair not in one for one in tables)), pair)
                     for pair in open_pairs(book)]
            self.assertEqual(best_question(book), min(sides)[1] if sides else None)

    def test_best_question_is_not_just_the_first_open_pair(self):
        book = Book(ABC, [("c", "b", False)])
        self.assertEqual((open_pairs(book)[0], best_question(book)), (("a", "b"), ("b", "c")))
        book = Book(ABC, [("b", "c", True)])
        self.assertEqual((open_pairs(book)[0], best_question(book)), (("a", "b"), ("a", "c")))

    def test_fewest_questions(self):
        for book in possible_books(20):
            tables = oracle.fitting(book)
            least = least_depth(tables, open_pairs(book))
            self.assertEqual(fewest_questions(book), least)
            tree = asking(book)
            self.assertEqual(depth_of(tree), least)
            self.assertTrue(is_asking_by_words(book, tree))
            self.assertIs(is_asking(book, tree), True)

    def test_some_books_of_six_things(self):
        for betters in oracle.some_tables(SIX, 20, 92):
            answers = [(x, y, (x, y) in betters) for x in SIX for y in SIX if x != y]
            book = Book(SIX, answers[::2] + [answer for answer in answers if answer[2]])
            for answer in answers:
                if len(Space(book, most=2000)) > 20:
                    book = book.put(answer)
            tree = asking(book)
            self.assertEqual(depth_of(tree), fewest_questions(book))
            self.assertIs(is_asking(book, tree), True)
            self.assertLessEqual(len(Space(book)), 2 ** depth_of(tree))
            self.hold_walls_on_the_way(book, book, tree, [])

    def hold_walls_on_the_way(self, book, now, tree, pairs):
        if tree is None:
            self.assertLessEqual(set(walls_of(book, only_table(now))), set(pairs))
            return
        self.hold_walls_on_the_way(book, now.put((*tree[0], True)), tree[1], pairs + [tree[0]])
        self.hold_walls_on_the_way(book, now.put((*tree[0], False)), tree[2], pairs + [tree[0]])

    def test_too_many(self):
        for book in (TWO, FREE, Book(FOUR, [("a", "b", True), ("c", "d", True)])):
            many = len(oracle.fitting(book))
            for call, most in ((best_question, 400), (fewest_questions, 20), (asking, 20)):
                if many <= most:
                    self.assertEqual(call(book, most=many), call(book))
                else:
                    self.assertEqual(caught(call, book).most, most)
                error = caught(call, book, most=many - 1)
                self.assertIsInstance(error, TooMany)
                self.assertEqual(error.most, many - 1)
        for call, most in ((best_question, 400), (fewest_questions, 20), (asking, 20)):
            self.assertEqual(caught(call, Book(SIX)).most, most)
        # 19 tables fit the book of three things, 183 that of four.
        self.assertEqual((fewest_questions(FREE), best_question(Book(FOUR))), (6, ("a", "b")))
        self.assertEqual(caught(fewest_questions, Book(FOUR)).most, 20)

    def test_is_asking(self):
        tree = (AB, None, (BA, None, None))
        self.assertIs(is_asking(TWO, tree), True)
        self.assertIs(is_asking(TWO, (BA, None, (AB, None, None))), True)
        for bad in (None, (AB, None, None), (AB, (BA, None, None), None), (AB, (BA, None, None), (BA, None, None)),
                    (AB, None, (AB, None, None)), (AB, None, (BA, None, (AB, None, None))), (AB, (AB, None, None), None)):
            self.assertIs(is_asking(TWO, bad), False)
        # Things that are none of the book are not asked about, even where nothing would come of it.
        for pair in (("a", "zz"), ("zz", "a"), ("y", "zz"), ("a", "a")):
            self.assertIs(is_asking(Book(["a"]), (pair, None, None)), False)
            self.assertIs(is_asking(TWO, (pair, tree, tree)), False)
        # There need not be few tables.
        self.assertIs(is_asking(Book(SIX), None), False)
        self.assertIs(is_asking(Book(SIX), tree), False)

    def test_is_asking_of_trees_that_are_changed_at_any_depth(self):
        for book in (TWO, FREE, Book(ABC, [("a", "b", True)]), Book(FOUR, [("a", "b", True), ("b", "c", True)])):
            tree = asking(book, most=400)
            self.assertIs(is_asking(book, tree), True)
            truths = set()
            for changed in trees_changed(tree):
                truth = repr(changed) == repr(tree)
                truths.add(truth)
                self.assertIs(is_asking(book, changed), truth, changed)
            self.assertIn(False, truths)

    def test_is_asking_of_any_value(self):
        for value in odd.values():
            self.assertIs(is_asking(TWO, value), False)
            self.assertIs(is_asking(Book(["a"]), value), value is None)
            self.assertIs(is_asking(TWO, (AB, value, (BA, None, None))), value is None)
            self.assertIs(is_asking(TWO, (AB, None, (BA, None, value))), value is None)
            self.assertIs(is_asking(TWO, (value, None, (BA, None, None))), value == AB)

    def test_a_tree_of_many_parts(self):
        book = Book(["a", "b", "c", "d", "e"], [("a", "b", True)])
        tree = plain_tree(open_pairs(book), Space(book, most=3000).listed())
        self.assertGreater(len(Space(book, most=3000)), 300)
        self.assertIs(is_asking(book, tree), True)

    def test_ring(self):
        book = Book(ABC, [("c", "a", True), ("a", "c", True), ("b", "c", False)])
        for call, given in ((best_question, ()), (fewest_questions, ()), (asking, ()), (is_asking, (None,)),
                            (is_asking, ((AB, None, None),))):
            error = caught(call, book, *given)
            self.assertIsInstance(error, Ring)
            self.assertEqual(error.ring, ring_of(book))
        self.assertIsInstance(caught(best_question, book, most=1), Ring)

    def test_arguments_stay(self):
        book = Book(ABC, [("a", "b", True)])
        told = [best_question(book), fewest_questions(book), asking(book), is_asking(book, asking(book))]
        self.assertEqual([best_question(book), fewest_questions(book), asking(book), is_asking(book, asking(book))], told)
        self.assertEqual(book.answers(), [("a", "b", True)])


def plain_tree(pairs, tables):
    """Return an asking that asks about the pairs in their order."""
    if len(tables) == 1:
        return None
    for pair in pairs:
        sides = [[table for table in tables if table[pair] == truth] for truth in (True, False)]
        if all(sides):
            return (pair, plain_tree(pairs, sides[0]), plain_tree(pairs, sides[1]))


if __name__ == "__main__":
    unittest.main()
