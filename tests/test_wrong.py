"""[2], [3], [4], [5], [10], [13], [31], [75] Wrong answers, and trees that show how many there are."""

import itertools
import random
import time
import unittest

from barelybetter.books import Book
from barelybetter.rings import is_possible, is_ring, ring_of
from barelybetter.wrong import fewest_wrong, is_tree, left_outs, possibly_wrong, surely_wrong, tree_for
from tests import odd, oracle
from tests.odd import lists_in

ABC = ["a", "b", "c"]
FOUR = ["a", "b", "c", "d"]
SIX = ["a", "b", "c", "d", "e", "f"]
A_B, B_A, B_C, C_B, C_A = ("a", "b", True), ("b", "a", True), ("b", "c", True), ("c", "b", True), ("c", "a", True)
TWICE = Book(ABC, [A_B, B_A, B_C, C_B])


def least_outs(book):
    """Return all least sets of answers that some table contradicts, by going through all tables."""
    outs = {tuple(answer for answer in book if ((answer[0], answer[1]) in table) != answer[2])
            for table in oracle.all_tables(tuple(book.things()))}
    fewest = min(len(out) for out in outs)
    return sorted(list(out) for out in outs if len(out) == fewest)


def drawn_books(things, many, answers, seed):
    """Return Books of just so many answers, of which some are those of worths and some are not."""
    chance = random.Random(seed)
    pairs = [(x, y) for x in things for y in things if x != y]
    books = []
    for number in range(many):
        worth = {thing: chance.randint(0, 12) for thing in things}
        lies = chance.random() * (number % 3) / 2
        books.append(Book(things, [(x, y, (worth[x] - worth[y] > 4) != (chance.random() < lies))
                                   for x, y in chance.sample(pairs, answers)]))
    return books


def small_books():
    return oracle.all_books(ABC)[::2] + oracle.some_books(FOUR, 60, 151) + drawn_books(FOUR, 60, 12, 152)


def is_tree_by_words(book, many, ring, trees):
    """Tell by the words of the document whether these are the parts of a tree; they have to be of the right kinds."""
    ends = [(x, y) if truth else (y, x) for x, y, truth in ring]
    if not ring or any(ahead[1] != behind[0] for ahead, behind in zip(ends, ends[1:] + ends[:1])):
        return False
    if any(answer not in book.answers() for answer in ring) or oracle.weight(ring)[0] < 0:
        return False
    if many == 0:
        return trees == []
    return len(trees) == len(ring) and all(
        is_tree_by_words(Book(book.things(), set_without(book, answer)), many - 1, *tree)
        for answer, tree in zip(ring, trees))


def set_without(book, answer):
    return [other for other in book.answers() if other != answer]


def led_round(tree, by):
    """Return the tree with its ring, and what stands behind it, led round."""
    ring, trees = tree
    return (ring[by:] + ring[:by], trees[by:] + trees[:by])


def changed(tree):
    """Return trees that are changed in one place, at any depth."""
    ring, trees = tree
    found = [(ring[1:] + ring[:1], trees), (ring + ring, trees), (ring + ring, trees + trees), (ring[1:], trees[1:]),
             (ring[:-1], trees), (ring + ring[:1], trees), (ring, trees[1:]), (ring, trees + trees[:1]),
             (ring[::-1], trees), (ring, trees[::-1]), (ring, trees + [(ring, [])]), ([], []), (ring, [])]
    found += [(ring, trees[:at] + [other] + trees[at + 1:]) for at, one in enumerate(trees) for other in changed(one)]
    return found


def of_other_kinds(tree):
    """Return values that are no trees, changed in the kind of one part, at any depth."""
    ring, trees = tree
    found = [list(tree), (tuple(ring), trees), (ring, tuple(trees)), (ring,), (ring, trees, []), (ring, None), None,
             (ring, {}), ([list(one) for one in ring], trees), ([one[:2] + (int(one[2]),) for one in ring], trees)]
    return found + [(ring, trees[:at] + [other] + trees[at + 1:])
                    for at, one in enumerate(trees) for other in of_other_kinds(one)]


class LeftOutsTest(unittest.TestCase):

    def test_no_answers_and_possible_books(self):
        for book in (Book([]), Book(["a"]), Book(SIX), Book(ABC, [A_B, B_C]), Book(ABC, [A_B, ("b", "a", False)])):
            self.assertEqual((fewest_wrong(book), left_outs(book)), (0, [[]]))
            self.assertEqual((surely_wrong(book), possibly_wrong(book)), ([], []))

    def test_one_wrong_answer(self):
        book = Book(ABC, [A_B, B_C, ("a", "c", False)])
        self.assertEqual(fewest_wrong(book), 1)
        self.assertEqual(left_outs(book), [[A_B], [("a", "c", False)], [B_C]])
        self.assertEqual((surely_wrong(book), possibly_wrong(book)), ([], [A_B, ("a", "c", False), B_C]))
        # Two rings that have one answer in common.
        book = Book(ABC, [A_B, B_A, B_C, C_A])
        self.assertEqual((left_outs(book), surely_wrong(book), possibly_wrong(book)), ([[A_B]], [A_B], [A_B]))

    def test_two_wrong_answers(self):
        self.assertEqual(fewest_wrong(TWICE), 2)
        self.assertEqual(left_outs(TWICE), [[A_B, B_C], [A_B, C_B], [B_A, B_C], [B_A, C_B]])
        self.assertEqual((surely_wrong(TWICE), possibly_wrong(TWICE)), ([], [A_B, B_A, B_C, C_B]))

    def test_against_all_tables(self):
        seen = set()
        for book in small_books():
            outs = least_outs(book)
            self.assertEqual(left_outs(book), outs, book.answers())
            self.assertEqual(fewest_wrong(book), len(outs[0]))
            self.assertEqual(surely_wrong(book), [answer for answer in book if all(answer in out for out in outs)])
            self.assertEqual(possibly_wrong(book), [answer for answer in book if any(answer in out for out in outs)])
            self.assertIs(fewest_wrong(book) == 0, is_possible(book))
            seen.add(fewest_wrong(book))
        self.assertLessEqual({0, 1, 2, 3}, seen)

    def test_six_things_and_fourteen_answers(self):
        for book in drawn_books(SIX, 24, 14, 153):
            outs, answers = left_outs(book), book.answers()
            self.assertEqual(outs, sorted(outs))
            fewest = fewest_wrong(book)
            able = [list(out) for out in itertools.combinations(answers, fewest)
                    if is_possible(Book(SIX, [one for one in answers if one not in out]))]
            self.assertEqual(outs, able)
            for out in itertools.combinations(answers, max(0, fewest - 1)):
                if fewest:
                    self.assertIs(is_possible(Book(SIX, [one for one in answers if one not in out])), False)

    def test_many_wrong_answers(self):
        answers = [(x, y, True) for x, y in zip("abcdefacbdaefd", "badcfecadbeadf")]
        self.assertEqual(len(set(answers)), 14)
        book = Book(SIX, answers)
        self.assertEqual(fewest_wrong(book), 7)
        self.assertTrue(all(is_possible(Book(SIX, [one for one in answers if one not in out])) for out in left_outs(book)))
        self.assertTrue(all(len(out) == 7 for out in left_outs(book)))

    def test_turned_about_and_with_other_names(self):
        turn = dict(zip(SIX, ["zoo", "d", "b", "yak", "a", "c"]))
        for book in drawn_books(SIX, 10, 14, 154):
            outs = left_outs(book)
            self.assertEqual(left_outs(~book), sorted(sorted((y, x, truth) for x, y, truth in out) for out in outs))
            self.assertEqual(left_outs(book.renamed(turn)), sorted(
                sorted((turn[x], turn[y], truth) for x, y, truth in out) for out in outs))

    def test_asking_changes_nothing_and_results_are_new(self):
        for book in (TWICE, Book(ABC, [A_B]), Book([])):
            answers = book.answers()
            told = [repr(call(book)) for call in (left_outs, surely_wrong, possibly_wrong, fewest_wrong)]
            tree = repr(tree_for(book, 1))
            for call in (left_outs, surely_wrong, possibly_wrong):
                call(book).append("z")
            left_outs(book)[0].append("z")
            if tree_for(book, 1):
                tree_for(book, 1)[0].clear()
                tree_for(book, 1)[1][0][0].clear()
                tree_for(book, 1)[1].clear()
            self.assertEqual([repr(call(book)) for call in (left_outs, surely_wrong, possibly_wrong, fewest_wrong)], told)
            self.assertEqual((repr(tree_for(book, 1)), book.answers()), (tree, answers))

    def test_quick(self):
        books = drawn_books(SIX, 60, 14, 155)
        start = time.process_time()
        for book in books:
            left_outs(book)
            tree_for(book, 3)
        self.assertLess(time.process_time() - start, 2)


class TreesTest(unittest.TestCase):

    def test_examples(self):
        ring = [A_B, B_A]
        self.assertEqual(tree_for(Book(["a", "b"], ring), 0), (ring, []))
        self.assertIsNone(tree_for(Book(["a", "b"], ring), 1))
        tree = ([B_A, A_B], [([C_B, B_C], []), ([B_C, C_B], [])])
        self.assertIs(is_tree(TWICE, 1, tree), True)
        for many in (0, 2, 3):
            self.assertIs(is_tree(TWICE, many, tree), False)

    def test_a_tree_just_where_more_answers_are_wrong(self):
        for book in small_books()[::2] + drawn_books(SIX, 12, 14, 156):
            for many in range(4):
                tree = tree_for(book, many)
                self.assertEqual(tree is None, fewest_wrong(book) <= many)
                if tree is not None:
                    self.assertTrue(is_tree_by_words(book, many, *tree))
                    self.assertIs(is_tree(book, many, tree), True)
                    self.assertEqual(len(lists_in(tree)), len({id(one) for one in lists_in(tree)}))

    def test_changed_trees(self):
        found = {True: 0, False: 0}
        full = Book(FOUR, [A_B, B_A, B_C, C_B, C_A, ("a", "c", True), ("d", "c", False), ("a", "d", True)])
        for book in (TWICE, full, Book(ABC, [A_B, B_C, C_A, ("a", "c", False)]), Book(ABC, [A_B, B_A, B_C])):
            for many in range(3):
                tree = tree_for(book, many)
                if tree is None:
                    continue
                for other in changed(tree):
                    truth = is_tree_by_words(book, many, *other)
                    self.assertIs(is_tree(book, many, other), truth, other)
                    found[truth] += 1
                for other in of_other_kinds(tree):
                    self.assertIs(is_tree(book, many, other), False, other)
                for by in range(len(tree[0])):
                    self.assertIs(is_tree(book, many, led_round(tree, by)), True)
        self.assertGreater(min(found.values()), 9)

    def test_a_ring_may_go_round_twice(self):
        ring = [A_B, B_A]
        book = Book(["a", "b"], ring)
        self.assertIs(is_tree(book, 0, (ring * 2, [])), True)
        one, other = ([B_C, C_B], []), ([C_B, B_C], [])
        self.assertIs(is_tree(TWICE, 1, (ring * 2, [one, other, other, one])), True)
        self.assertIs(is_tree(TWICE, 1, (ring * 2, [one, other])), False)
        # A longer ring than that of the fewest answers.
        longer = [A_B, B_C, C_B, B_A]
        self.assertIs(is_tree(TWICE, 1, (longer, [one, (ring, []), (ring, []), one])), True)
        self.assertIs(is_tree(TWICE, 1, (longer, [one, (ring, []), one, one])), False)

    def test_an_answer_that_was_left_out_above(self):
        # The tree behind an answer does not use it.
        self.assertIs(is_tree(TWICE, 1, ([A_B, B_A], [([A_B, B_A], []), ([B_C, C_B], [])])), False)

    def test_any_value(self):
        for value in odd.values() + [([], []), ([A_B], []), ([A_B, B_A], None)]:
            for book in (TWICE, Book([])):
                for many in range(4):
                    self.assertIs(is_tree(book, many, value), False)
            self.assertIs(is_tree(TWICE, 0, ([A_B, B_A], value)), value == [] and isinstance(value, list))
            self.assertIs(is_tree(TWICE, 0, (value, [])), False)
            self.assertIs(is_tree(TWICE, 1, ([A_B, B_A], [value, ([B_C, C_B], [])])), False)

    def test_of_no_number_a_possible_book_has_a_tree(self):
        for many in range(4):
            self.assertIsNone(tree_for(Book(ABC, [A_B, B_C]), many))
            self.assertIs(is_tree(Book(ABC, [A_B, B_C]), many, ([A_B, B_C], [])), False)

    def test_least_ring_is_a_tree_for_nothing(self):
        for book in small_books():
            if not is_possible(book):
                self.assertIs(is_tree(book, 0, (ring_of(book), [])), True)
                self.assertIs(is_ring(book, tree_for(book, 0)[0]), True)


if __name__ == "__main__":
    unittest.main()
