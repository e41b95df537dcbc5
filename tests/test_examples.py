"""[1] The examples of the document, as they are printed."""

import doctest
import unittest

STAGE_1 = """
>>> from barelybetter.books import Book
>>> from barelybetter.kinds import ends_of
>>> book = Book(["tea", "milk", "juice"], [("tea", "milk", True), ("juice", "tea", False)])
>>> [book["tea", "milk"], book["milk", "tea"], len(book), len(book.untold()), ends_of(("juice", "tea", False))]
[True, None, 2, 4, ('tea', 'juice')]
>>> [(~book).answers(), (book | Book(["milk", "wine"], [("wine", "milk", False)])).things()]
[[('milk', 'tea', True), ('tea', 'juice', False)], ['juice', 'milk', 'tea', 'wine']]
"""

STAGE_2 = STAGE_1 + """
>>> from barelybetter.heaviest import heaviest, heaviest_walk
>>> from barelybetter.rings import ring_of
>>> from barelybetter.walks import things_through
>>> [heaviest(book, "tea", "milk"), heaviest(book, "tea", "juice"), heaviest(book, "milk", "tea"), heaviest(book, "milk", "milk")]
[(1, 1), (-1, 0), None, (0, 0)]
>>> worse = book.put(("milk", "juice", True)).put(("tea", "juice", False))
>>> [ring_of(book), ring_of(worse), things_through(ring_of(worse))]
[None, [('milk', 'juice', True), ('tea', 'juice', False), ('tea', 'milk', True)], ['milk', 'juice', 'tea', 'milk']]
"""

STAGE_3 = STAGE_2 + """
>>> from barelybetter.best import best_sets, possibly_best, surely_best
>>> from barelybetter.ends import apart, follow, surely, why
>>> from barelybetter.scales import Scale, moments, plainest
>>> [plainest(book).worths(), plainest(book).step, plainest(book).fits(book)]
[{'juice': 0, 'milk': 0, 'tea': 4}, 3, True]
>>> [apart(book, "tea", "milk"), apart(book, "juice", "tea"), apart(book, "milk", "juice"), apart(book, "tea", "tea")]
[((1, False), None), (None, (1, True)), (None, None), ((0, True), (0, True))]
>>> [surely(book).answers(), why(book, ("milk", "tea", False))]
[[('juice', 'tea', False), ('milk', 'tea', False), ('tea', 'milk', True)], [('tea', 'milk', True)]]
>>> follow(book, ("milk", "juice", True))
[('juice', 'milk', False), ('milk', 'juice', True), ('tea', 'juice', True)]
>>> [surely_best(book), possibly_best(book), best_sets(book)]
[['tea'], ['juice', 'tea'], [['juice', 'tea'], ['tea']]]
>>> moments(Scale({"a": 0, "b": 4}, 3), Scale({"a": 2, "b": 0}, 1))
[(1, 10, [('b', 'a')]), (7, 10, [('a', 'b')])]
"""

STAGE_4 = STAGE_3 + """
>>> from barelybetter.orders import levels_of, longest_row, ranks_of
>>> from barelybetter.tables import Table, only_table, patterns_of, table_of
>>> table = Table(["a", "b", "c"], [("a", "c")])
>>> [ranks_of(table), levels_of(table), longest_row(table), table["c", "a"], table ^ ~table]
[[['a'], ['b'], ['c']], [['a', 'b'], ['c']], ['a', 'c'], False, [('a', 'c'), ('c', 'a')]]
>>> patterns_of(["a", "b", "c"], [("a", "b"), ("b", "c")])
[('three', 'a', 'b', 'c', 'a'), ('three', 'a', 'b', 'c', 'c'), ('two', 'a', 'b', 'b', 'c'), ('two', 'b', 'c', 'a', 'b')]
>>> [table_of(Scale({"a": 2, "b": 1, "c": 0}, 1)) == table, only_table(book), only_table(table.full_book()) == table]
[True, None, True]
"""

STAGE_5 = STAGE_4 + """
>>> from barelybetter.pins import other_table, pin_why, pins_of
>>> from barelybetter.walls import walls_of
>>> from barelybetter.ways import count_ways, first_turns, way_between
>>> free = Book(["a", "b", "c"])
>>> [walls_of(free, table), pins_of(free, table)]
[[('a', 'b'), ('a', 'c'), ('b', 'c')], [('a', 'b', False), ('a', 'c', True), ('b', 'c', False)]]
>>> [pin_why(free, table, ("b", "a", False)), other_table(free, table, pins_of(free, table))]
[[('a', 'c', True), ('b', 'c', False)], None]
>>> chain = Table(["a", "b", "c"], [("a", "b"), ("a", "c"), ("b", "c")])
>>> [walls_of(free, chain), count_ways(free, table, chain), first_turns(free, chain, ~chain)]
[[('a', 'b'), ('b', 'c')], 2, [('a', 'b'), ('b', 'c')]]
>>> [one.betters() for one in way_between(free, table, ~table)]
[[('a', 'c')], [], [('c', 'a')]]
"""

STAGE_6 = STAGE_5 + """
>>> from barelybetter.questions import best_question, fewest_questions, is_asking
>>> from barelybetter.spaces import Space
>>> space = Space(free)
>>> [len(space), space.links(), space.counts(("a", "b")), space.farthest(), space.number(table)]
[19, 30, (6, 13), 6, 7]
>>> two = Book(["a", "b"])
>>> [len(Space(two)), best_question(two), fewest_questions(two), is_asking(two, (("a", "b"), None, (("b", "a"), None, None)))]
[3, ('a', 'b'), 2, True]
"""

STAGE_7 = STAGE_6 + """
>>> from barelybetter.judges import Judges
>>> from barelybetter.wrong import fewest_wrong, is_tree, left_outs, tree_for
>>> [fewest_wrong(worse), len(left_outs(worse)), is_tree(worse, 0, (ring_of(worse), [])), tree_for(worse, 1)]
[1, 3, True, None]
>>> fine = Book(["a", "b", "c"], [("a", "b", True), ("b", "c", True)])
>>> both = Judges(fine, Book(["a", "b", "c"], [("a", "c", False)]))
>>> [both.limits(), both.rounds()[1], both.is_sure(1, ("a", "b", False))]
[((2, 1), None), None, True]
>>> [scale.worths() for scale in both.scales_at(3, 1)]
[{'a': 8, 'b': 4, 'c': 0}, {'a': 8, 'b': 4, 'c': 0}]
"""

STAGE_8 = STAGE_7 + """
>>> from barelybetter.menus import choose, leaders_of, menus_surely
>>> from barelybetter.stretches import plain_stretches, stretch_ring
>>> beside = Book(["a", "b", "c", "d"], [("a", "b", True), ("b", "c", True), ("a", "d", False), ("d", "c", False)])
>>> [len(ring_of(beside)), stretch_ring(beside), plain_stretches(beside)]
[4, None, {'a': (2, 2), 'b': (1, 1), 'c': (0, 0), 'd': (0, 2)}]
>>> scale = Scale({"a": 2, "b": 1, "c": 0}, 1)
>>> [choose(scale, ["b", "c"]), choose(scale, ["a", "c"]), leaders_of(["a", "b", "c"], [(("a", "b", "c"), ("a", "b"))])]
[['b', 'c'], ['a'], [['a'], ['b']]]
>>> menus_surely(["a", "b", "c"], [(("a", "b", "c"), ("a", "b"))]).answers()
[('a', 'b', False), ('b', 'a', False), ('c', 'a', False), ('c', 'b', False)]
"""

STAGE_9 = STAGE_8 + """
>>> from barelybetter.desk import Desk
>>> from barelybetter.logs import Log
>>> desk = Desk(["tea", "milk"])
>>> [desk.execute(line) for line in ("say tea better milk", "say milk better tea", "apart tea milk", "tables", "why milk not tea")]
['ok', 'ring milk better tea, tea better milk', '1, none', '1', 'tea better milk']
>>> log = Log(free)
>>> log["a", "b"] = True
>>> [log["a", "b"], log.back(), len(log), log["a", "b"]]
[True, ('say', ('a', 'b'), True), 0, None]
"""


class ExamplesTest(unittest.TestCase):

    def holds(self, text):
        test = doctest.DocTestParser().get_doctest(text, {}, "DOC.md", "DOC.md", 0)
        told = []
        result = doctest.DocTestRunner(verbose=False).run(test, out=told.append)
        self.assertEqual(result.failed, 0, "".join(told))
        self.assertEqual(result.attempted, text.count(">>> "))

    def test_stage_1(self):
        self.holds(STAGE_1)

    def test_stage_2(self):
        self.holds(STAGE_2)

    def test_stage_3(self):
        self.holds(STAGE_3)

    def test_stage_4(self):
        self.holds(STAGE_4)

    def test_stage_5(self):
        self.holds(STAGE_5)

    def test_stage_6(self):
        self.holds(STAGE_6)

    def test_stage_7(self):
        self.holds(STAGE_7)

    def test_stage_8(self):
        self.holds(STAGE_8)

    def test_stage_9(self):
        self.holds(STAGE_9)


if __name__ == "__main__":
    unittest.main()
