"""[2], [3], [4], [5], [10], [13], [42], [81] Menus."""

import itertools
import random
import time
import unittest

from barelybetter.books import Book
from barelybetter.ends import surely
from barelybetter.errors import NoWorths
from barelybetter.menus import (
    choose, fit_menus, is_menu, is_menu_tree, leaders_of, menu_answers, menu_tree, menus_surely)
from barelybetter.rings import is_ring
from barelybetter.scales import Scale
from tests import odd, oracle
from tests.odd import lists_in

AB, ABC, FOUR = ["a", "b"], ["a", "b", "c"], ["a", "b", "c", "d"]
SIX = ["a", "b", "c", "d", "e", "f"]
MENU = (("a", "b", "c"), ("a", "b"))
A, B = (("a", "b"), ("a",)), (("a", "b"), ("b",))


def drawn_menus(things, many, seed):
    """Return lists of up to three menus: what worths choose of some things, or just some of them."""
    chance = random.Random(seed)
    found = []
    for number in range(many):
        worth = {thing: chance.randint(0, 12) for thing in things}
        menus = []
        for _ in range(chance.randint(0, 3)):
            some = sorted(chance.sample(things, chance.randint(1, len(things))))
            best = [x for x in some if all(worth[y] - worth[x] <= 4 for y in some)]
            if number % 2 or len(best) > 4:
                best = sorted(chance.sample(some, chance.randint(1, min(4, len(some)))))
            menus.append((tuple(some), tuple(best)))
        found.append(menus + menus[:1] if number % 5 == 0 and len(menus) < 3 else menus)
    return found


def fitting(things, menus):
    """Return the betters of all tables that fit all menus, by the words of the document."""
    return [betters for betters in oracle.all_tables(tuple(sorted(things)))
            if all(chosen == tuple(x for x in some if not any((y, x) in betters for y in some))
                   for some, chosen in menus)]


def says(betters, answers):
    return all(((x, y) in betters) == truth for x, y, truth in answers)


def told(menus, leaders):
    return [answer for menu, leader in zip(menus, leaders) for answer in menu_answers(menu, leader)]


def clashes(answers):
    return {(x, y) for x, y, truth in answers if (x, y, not truth) in answers}


def is_tree_by_words(things, menus, leaders, tree):
    """Tell by the words of the document whether a tree is one; all of its parts have to be of the right kinds."""
    answers = told(menus, leaders)
    if tree[0] == "clash":
        return tree[1] in clashes(answers)
    if tree[0] == "ring":
        return not clashes(answers) and is_ring(Book(things, answers), tree[1])
    if len(leaders) == len(menus):
        return False
    chosen = menus[len(leaders)][1]
    return len(tree[1]) == len(chosen) and all(
        is_tree_by_words(things, menus, leaders + [leader], one) for leader, one in zip(chosen, tree[1]))


def changed(tree):
    """Return trees that are changed in one place, at any depth."""
    word, part = tree
    if word == "clash":
        return [("clash", part[::-1]), ("clash", ("a", "f")), ("ring", []), ("lead", []), ("lead", [tree])]
    if word == "ring":
        return [("ring", part[1:] + part[:1]), ("ring", part * 2), ("ring", part[1:]), ("ring", part[::-1]), ("ring", []),
                ("ring", part + part[:1]), ("clash", part[0][:2]), ("lead", []), ("lead", [tree, tree])]
    found = [("lead", part[1:]), ("lead", part + part[:1]), ("lead", part[::-1]), ("lead", []), ("lead", [tree] * len(part)),
             ("clash", ("a", "b")), ("ring", [])]
    return found + [("lead", part[:at] + [other] + part[at + 1:]) for at, one in enumerate(part) for other in changed(one)]


def of_other_kinds(tree):
    """Return values that are no trees, changed in the kind of one part, at any depth."""
    word, part = tree
    found = [list(tree), (word,), (word, part, part), (word, None), (word.upper(), part), (None, part), (word, {}),
             (word, tuple(part) if isinstance(part, list) else list(part)), None, word]
    if word == "lead":
        found += [(word, part[:at] + [other] + part[at + 1:]) for at, one in enumerate(part)
                  for other in of_other_kinds(one)]
    if word == "ring":
        found += [(word, [list(one) for one in part]), (word, [one[:2] + (int(one[2]),) for one in part])]
    return found


class MenuTest(unittest.TestCase):

    def test_is_menu(self):
        for good in (MENU, A, (("a",), ("a",)), (("aa", "b"), ("b",)), (tuple("abcdefghij"), tuple("abcdefghij"))):
            self.assertIs(is_menu(good), True)
        for bad in (((), ()), (("a",), ()), (("b", "a"), ("a",)), (("a", "b"), ("b", "a")), (("a", "b"), ("c",)),
                    (("a", "a"), ("a",)), (("a", "b"), ("a", "a")), (["a"], ("a",)), (("a",), ["a"]), [("a",), ("a",)],
                    (("a",), ("a",), ("a",)), (("a",),), ("a", "a"), (("A",), ("A",)), (("a", ""), ("a",)), ((1,), (1,)),
                    (("a",), "a"), ("a", ("a",)), (("a",), None), ((("a",),), (("a",),)), (("abcdefghi",), ("abcdefghi",))):
            self.assertIs(is_menu(bad), False, bad)
        for value in odd.values():
            self.assertIs(is_menu(value), False)
            self.assertIs(is_menu((value, ("a",))), value in (("a",), ("a", "b")) and isinstance(value, tuple))
            self.assertIs(is_menu((("a", "b"), value)), value in (("a",), ("a", "b")) and isinstance(value, tuple))

    def test_choose(self):
        scale = Scale({"a": 2, "b": 1, "c": 0}, 1)
        self.assertEqual([choose(scale, ["c", "b"]), choose(scale, ["c", "a"]), choose(scale, ["c", "b", "a"])],
                         [["b", "c"], ["a"], ["a", "b"]])
        self.assertEqual((choose(scale, []), choose(scale, ["b"])), ([], ["b"]))
        far = Scale({"x": -10 ** 30, "y": 10 ** 30, "z": 0}, 10 ** 30)
        self.assertEqual([choose(far, ["z", "y"]), choose(far, ["y", "x"]), choose(far, ["z", "x"])],
                         [["y", "z"], ["y"], ["x", "z"]])

    def test_choose_fits(self):
        chance = random.Random(191)
        for _ in range(60):
            scale = Scale({thing: chance.randint(0, 12) for thing in FOUR}, 4)
            some = chance.sample(FOUR, chance.randint(1, 4))
            kept = list(some)
            menu = (tuple(sorted(some)), tuple(choose(scale, some)))
            self.assertEqual(some, kept)
            self.assertIs(is_menu(menu), True)
            self.assertIs(fit_menus(FOUR, [menu]), True)
            self.assertIs(menus_surely(FOUR, [menu]).within(scale.full_book()), True)

    def test_menu_answers(self):
        self.assertEqual(menu_answers(MENU, "b"), [("a", "b", False), ("b", "a", False), ("b", "c", True),
                                                   ("c", "a", False), ("c", "b", False)])
        self.assertEqual(menu_answers(A, "a"), [("a", "b", True), ("b", "a", False)])
        self.assertEqual(menu_answers((("a",), ("a",)), "a"), [])
        for menus in drawn_menus(SIX, 40, 192):
            for things, chosen in menus:
                for leader in chosen:
                    self.assertEqual(menu_answers((things, chosen), leader), sorted(
                        [(y, x, False) for y in things for x in chosen if y != x]
                        + [(leader, z, True) for z in things if z not in chosen]))


class LeadersTest(unittest.TestCase):

    def test_no_things_and_no_menus(self):
        for things in ([], ["a"], SIX):
            self.assertEqual((leaders_of(things, []), fit_menus(things, []), menu_tree(things, [])), ([[]], True, None))
            self.assertTrue(menus_surely(things, []) == Book(things))
        self.assertEqual(leaders_of(["a"], [(("a",), ("a",))]), [["a"]])

    def test_menus_twice(self):
        self.assertEqual(leaders_of(ABC, [MENU]), [["a"], ["b"]])
        self.assertEqual(leaders_of(ABC, [MENU, MENU]), [["a", "a"], ["a", "b"], ["b", "a"], ["b", "b"]])
        self.assertTrue(menus_surely(ABC, [MENU, MENU]) == menus_surely(ABC, [MENU]))

    def test_no_leader_is_needed_where_all_are_chosen(self):
        all_of = (("a", "b"), ("a", "b"))
        self.assertEqual(leaders_of(["b", "a"], [all_of]), [["a"], ["b"]])
        self.assertEqual(menus_surely(["b", "a"], [all_of]).answers(), [("a", "b", False), ("b", "a", False)])

    def test_against_all_tables(self):
        for things, rows in ((AB, drawn_menus(AB, 20, 193)), (ABC, drawn_menus(ABC, 60, 194)), (FOUR, drawn_menus(FOUR, 60, 195))):
            for menus in rows:
                found = fitting(things, menus)
                tables = oracle.all_tables(tuple(things))
                self.assertEqual(leaders_of(things, menus), [
                    list(leaders) for leaders in itertools.product(*[chosen for _, chosen in menus])
                    if any(says(betters, told(menus, leaders)) for betters in tables)])
                self.assertIs(fit_menus(things, menus), len(found) > 0)
                if not found:
                    with self.assertRaises(NoWorths):
                        menus_surely(things, menus)
                    continue
                sure = [answer for answer in oracle.answers_about(things) if all(says(betters, [answer]) for betters in found)]
                self.assertEqual(menus_surely(things[::-1], menus).answers(), sure)
                self.assertEqual(menus_surely(things[::-1], menus).things(), sorted(things))

    def test_things_that_stand_in_no_menu(self):
        self.assertEqual(leaders_of(["z", "b", "a"], [A]), [["a"]])
        self.assertEqual(menus_surely(["z", "b", "a"], [A]).things(), ["a", "b", "z"])
        self.assertEqual(menus_surely(["z", "b", "a"], [A]).answers(), [("a", "b", True), ("b", "a", False)])

    def test_turned_names(self):
        turn = dict(zip(SIX, ["zoo", "d", "b", "yak", "a", "c"]))
        for menus in drawn_menus(SIX, 30, 196):
            other = [tuple(tuple(sorted(turn[x] for x in row)) for row in menu) for menu in menus]
            self.assertEqual(sorted([turn[x] for x in row] for row in leaders_of(SIX, menus)),
                             leaders_of(list(turn.values()), other))
            if fit_menus(SIX, menus):
                self.assertTrue(menus_surely(list(turn.values()), other) == menus_surely(SIX, menus).renamed(turn))

    def test_one_chosen_thing_is_a_plain_book(self):
        for menus in drawn_menus(SIX, 60, 197):
            if menus and all(len(chosen) == 1 for _, chosen in menus) and fit_menus(SIX, menus):
                book = Book(SIX, told(menus, [chosen[0] for _, chosen in menus]))
                self.assertTrue(menus_surely(SIX, menus) == surely(book))

    def test_results_are_new_and_arguments_stay(self):
        things, menus = ["c", "a", "b"], [MENU, MENU]
        leaders_of(things, menus)[0].clear()
        leaders_of(things, menus).clear()
        menu_answers(MENU, "a").clear()
        self.assertEqual(len(leaders_of(things, menus)), 4)
        self.assertEqual((things, menus), (["c", "a", "b"], [MENU, MENU]))
        worse = [A, B]
        menu_tree(AB, worse)[1].clear()
        self.assertEqual(menu_tree(AB, worse), ("lead", [("lead", [("clash", ("a", "b"))])]))
        self.assertEqual(worse, [A, B])

    def test_quick(self):
        full = (tuple(SIX), tuple("abcd"))
        rows = drawn_menus(SIX, 40, 198) + [[full] * 3, [full, full, (tuple("abcd"), ("d",))]]
        start = time.process_time()
        for menus in rows:
            leaders_of(SIX, menus)
            menu_tree(SIX, menus)
            if fit_menus(SIX, menus):
                menus_surely(SIX, menus)
        self.assertLess(time.process_time() - start, 2)


class TreesTest(unittest.TestCase):

    def test_clash(self):
        tree = ("lead", [("lead", [("clash", ("a", "b"))])])
        self.assertEqual(is_menu_tree(AB, [A, B], tree), True)
        self.assertEqual(is_menu_tree(AB, [A, B], ("lead", [("lead", [("clash", ("b", "a"))])])), True)
        # Some leader has to be picked for both.
        for bad in (("clash", ("a", "b")), ("lead", [("clash", ("a", "b"))]), ("lead", [("lead", [tree])]),
                    ("lead", [("lead", [("ring", [("a", "b", True), ("b", "a", True)])])])):
            self.assertIs(is_menu_tree(AB, [A, B], bad), False)
        self.assertIs(is_menu_tree(AB, [A], tree), False)
        self.assertIs(is_menu_tree(AB, [], ("ring", [])), False)

    def test_ring(self):
        menus = [(("a", "b"), ("a",)), (("b", "c"), ("b",)), (("a", "c"), ("a", "c"))]
        ring = [("a", "b", True), ("b", "c", True), ("a", "c", False)]
        tree = menu_tree(ABC, menus)
        self.assertEqual(tree, ("lead", [("lead", [("lead", [("ring", ring), ("ring", ring)])])]))
        self.assertIs(is_menu_tree(ABC, menus, tree), True)
        menus = [(("a", "b"), ("a",)), (("b", "c"), ("b",)), (("a", "c"), ("c",))]
        self.assertIs(is_menu_tree(ABC, menus, menu_tree(ABC, menus)), True)

    def test_more_menus_than_are_needed(self):
        menus = [A, B, (("a", "b"), ("a", "b"))]
        short = ("lead", [("lead", [("clash", ("a", "b"))])])
        long = ("lead", [("lead", [("lead", [("clash", ("a", "b")), ("clash", ("b", "a"))])])])
        self.assertEqual([is_menu_tree(AB, menus, tree) for tree in (short, long)], [True, True])

    def test_a_tree_just_where_no_worths_fit(self):
        seen = set()
        chain = [[(("a", "b"), ("a",)), (("b", "c"), ("b",)), (("a", "c"), row)] for row in (("a", "c"), ("c",), ("a",))]
        for things, rows in ((AB, drawn_menus(AB, 30, 199)), (ABC, drawn_menus(ABC, 60, 200) + chain),
                             (SIX, drawn_menus(SIX, 60, 201))):
            for menus in rows:
                tree = menu_tree(things[::-1], menus)
                self.assertEqual(tree is None, fit_menus(things, menus))
                if tree is not None:
                    self.assertTrue(is_tree_by_words(things, menus, [], tree))
                    self.assertIs(is_menu_tree(things[::-1], menus, tree), True)
                    self.assertEqual(len(lists_in(tree)), len({id(one) for one in lists_in(tree)}))
                    seen.update(words_in(tree))
        self.assertEqual(seen, {"clash", "ring", "lead"})

    def test_changed_trees(self):
        rows = [[A, B], [(("a", "b", "c"), ("a", "b")), (("b", "c"), ("c",))],
                [(("a", "b"), ("a",)), (("b", "c"), ("b",)), (("a", "c"), ("a", "c"))],
                [(("a", "b", "c", "d"), ("a", "b", "c")), (("b", "c", "d"), ("d",)), A],
                [(("a", "b"), ("a",)), (("c", "d"), ("c", "d")), (("b", "c"), ("b",))]]
        found = {True: 0, False: 0}
        for menus in rows + [menus for menus in drawn_menus(FOUR, 80, 202)]:
            tree = menu_tree(FOUR, menus)
            if tree is None:
                continue
            for other in changed(tree):
                truth = is_tree_by_words(FOUR, menus, [], other)
                self.assertIs(is_menu_tree(FOUR, menus, other), truth, other)
                found[truth] += 1
            for other in of_other_kinds(tree):
                self.assertIs(is_menu_tree(FOUR, menus, other), False, other)
        self.assertGreater(min(found.values()), 9)

    def test_any_value(self):
        for value in odd.values():
            self.assertIs(is_menu_tree(AB, [A, B], value), False)
            self.assertIs(is_menu_tree(AB, [], value), False)
            self.assertIs(is_menu_tree(AB, [A, B], ("lead", [("lead", [("clash", value)])])), value == ("a", "b"))
            for word in ("lead", "ring", "clash"):
                self.assertIs(is_menu_tree(AB, [A, B], (word, value)), False)
                self.assertIs(is_menu_tree(AB, [A, B], (word, [value])), False)
            self.assertIs(is_menu_tree(AB, [A, B], ("lead", [("lead", [value])])), False)
            self.assertIs(is_menu_tree(AB, [A, B], (value, [("lead", [("clash", ("a", "b"))])])), False)


def words_in(tree):
    return {tree[0]} | {word for one in tree[1] for word in words_in(one)} if tree[0] == "lead" else {tree[0]}


if __name__ == "__main__":
    unittest.main()
