"""[5], [10], [13] The guarantees, as far as they speak of rings, walks, scales and ends; [3] asking by turns."""

import unittest

from barelybetter.books import Book
from barelybetter.ends import apart, follow, is_sure, is_why, open_pairs, surely, why
from barelybetter.heaviest import heaviest, heaviest_walk
from barelybetter.kinds import contrary, mirrored
from barelybetter.rings import is_possible, is_ring, ring_of
from barelybetter.scales import Scale, moments, plainest
from barelybetter.walks import weight_of
from tests import oracle

SIX = ["a", "b", "c", "d", "e", "f"]


def small_books():
    return oracle.all_books(["a", "b", "c"]) + oracle.some_books(["a", "b", "c", "d"], 60, 5)


def large_books():
    return oracle.some_books(SIX, 30, 6)


class RingsTest(unittest.TestCase):
    """[5]"""

    def test_the_tables_that_are_tried_are_all(self):
        self.assertEqual([len(oracle.all_tables(tuple(SIX[:many]))) for many in range(5)], [1, 1, 3, 19, 183])

    def test_possible_or_a_ring(self):
        ways = [0, 0]
        for book in small_books() + large_books():
            ring = ring_of(book)
            ways[ring is None] += 1
            self.assertIs(is_possible(book), ring is None)
            if ring is None:
                self.assertIs(plainest(book).fits(book), True)
            else:
                self.assertIs(is_ring(book, ring), True)
                self.assertTrue(any(truth for _, _, truth in ring))
                # The ring alone is not possible, without one of its answers it is.
                alone = Book(book.things(), ring)
                self.assertIs(is_possible(alone), False)
                for answer in ring:
                    self.assertIs(is_possible(alone.out(answer)), True)
        self.assertGreater(min(ways), 100)

    def test_sure_by_a_walk_or_not_by_worths(self):
        for book in small_books() + large_books()[:12]:
            if not is_possible(book):
                continue
            for answer in oracle.answers_about(book.things()):
                walk = why(book, answer)
                if is_sure(book, answer):
                    self.assertIs(is_why(book, answer, walk), True)
                    self.assertIs(book[answer[:2]] is None or answer in book, True)
                    if answer not in book:
                        self.assertIs(is_possible(book.put(contrary(answer))), False)
                else:
                    self.assertIsNone(walk)
                    other = book if contrary(answer) in book else book.put(contrary(answer))
                    self.assertIs(plainest(other).fits(book), True)
                    self.assertIs(plainest(other).fits(Book(book.things(), [answer])), False)

    def test_differences_are_bound_by_walks(self):
        for book in large_books():
            if not is_possible(book):
                continue
            scale = plainest(book)
            for x in SIX:
                for y in SIX:
                    walk = heaviest_walk(book, x, y)
                    far = scale[x] - scale[y]
                    if walk is not None:
                        steps, betters = weight_of(walk)
                        self.assertGreaterEqual(far, steps * scale.step + (betters > 0))
                        self.assertEqual(apart(book, x, y)[0], (steps, betters == 0))
                        self.assertEqual(apart(book, y, x)[1], (-steps, betters == 0))


class TurnedAboutTest(unittest.TestCase):
    """[10]"""

    def test_turned_about(self):
        for book in small_books() + large_books()[:10]:
            about = ~book
            self.assertIs(is_possible(about), is_possible(book))
            if not is_possible(book):
                self.assertEqual(len(ring_of(about)), len(ring_of(book)))
                continue
            self.assertTrue(surely(about) == ~surely(book))
            self.assertEqual(open_pairs(about), sorted((y, x) for x, y in open_pairs(book)))
            self.assertIs((-plainest(book)).fits(about), True)
            for x, y in book.untold()[:4]:
                self.assertEqual(apart(about, x, y), apart(book, y, x))
                self.assertEqual(heaviest(about, x, y), heaviest(book, y, x))
                if (x, y) in open_pairs(book):
                    told = [mirrored(answer) for answer in follow(book, (x, y, True))]
                    self.assertEqual(follow(about, (y, x, True)), sorted(told))

    def test_moments(self):
        one, other = Scale({"a": 0, "b": 4, "c": 9}, 3), Scale({"a": 2, "b": 0, "c": 1}, 1)
        self.assertEqual(moments(-one, -other), [
            (a, b, sorted((y, x) for x, y in pairs)) for a, b, pairs in moments(one, other)])
        self.assertEqual(moments(other, one), [(b - a, b, pairs) for a, b, pairs in reversed(moments(one, other))])


class NamesTest(unittest.TestCase):
    """[13]"""

    def test_other_names(self):
        for turn in ({"a": "c", "b": "a", "c": "b"}, {"a": "zebra", "b": "yak", "c": "abcdefgh"}):
            for book in oracle.all_books(["a", "b", "c"]):
                self.hold_with_other_names(book, turn)
        for book in large_books()[:10]:
            self.hold_with_other_names(book, dict(zip(SIX, reversed(SIX))))

    def hold_with_other_names(self, book, turn):
        other = book.renamed(turn)
        self.assertIs(is_possible(other), is_possible(book))
        if not is_possible(book):
            self.assertEqual(len(ring_of(other)), len(ring_of(book)))
            return
        self.assertTrue(surely(other) == surely(book).renamed(turn))
        self.assertEqual(plainest(other).worths(), {
            turn[name]: worth for name, worth in plainest(book).worths().items()})
        self.assertEqual(open_pairs(other), sorted((turn[x], turn[y]) for x, y in open_pairs(book)))
        for x, y in (("a", "b"), ("c", "a"), ("b", "b")):
            self.assertEqual(heaviest(other, turn[x], turn[y]), heaviest(book, x, y))
            self.assertEqual(apart(other, turn[x], turn[y]), apart(book, x, y))


class AskingTest(unittest.TestCase):
    """[3]"""

    def test_two_books_by_turns(self):
        one = Book(["a", "b", "c"], [("a", "b", True), ("c", "b", False)])
        other = Book(["a", "b", "c"], [("b", "a", True), ("b", "c", True)])
        told = [self.all_of(one), self.all_of(other)]
        for _ in range(3):
            self.assertEqual([self.all_of(one), self.all_of(other)], told)
        self.assertNotEqual(told[0], told[1])
        self.assertEqual(one.answers(), [("a", "b", True), ("c", "b", False)])

    def all_of(self, book):
        things = book.things()
        return [
            ring_of(book), plainest(book).worths(), surely(book).answers(), open_pairs(book),
            [heaviest(book, x, y) for x in things for y in things],
            [heaviest_walk(book, x, y) for x in things for y in things],
            [apart(book, x, y) for x in things for y in things],
            [why(book, answer) for answer in oracle.answers_about(things)],
            [follow(book, (x, y, False)) for x, y in open_pairs(book)]]

    def test_equal_arguments_give_equal_results(self):
        one = Book(["a", "b", "c"], [("a", "b", True), ("c", "b", False), ("b", "c", False)])
        other = Book(("c", "b", "a"), [("b", "c", False), ("c", "b", False), ("a", "b", True), ("a", "b", True)])
        self.assertEqual(self.all_of(one), self.all_of(other))


if __name__ == "__main__":
    unittest.main()
