"""[1] The examples of the document, as they are printed."""

import doctest
import unittest

STAGE_1 = """
>>> from barelybetter.books import Book
>>> from barelybetter.kinds import ends_of
>>> book = Book(["tea", "milk", "juice"], [("tea", "milk", True), ("juice", "tea", False)])
>>> [book["tea", "milk"], book["milk", "tea"], len(book), len(book.untold()), ends_of(("juice", "tea", False))]
[True, None, 2, 4, ('tea', 'juice')]
>>> [(~book).answers(), (book | Book(["milk", "wine"], [("wine", "milk", False)])).things()]
[[('milk', 'tea', True), ('tea', 'juice', False)], ['juice', 'milk', 'tea', 'wine']]
"""


class ExamplesTest(unittest.TestCase):

    def holds(self, text):
        test = doctest.DocTestParser().get_doctest(text, {}, "DOC.md", "DOC.md", 0)
        told = []
        result = doctest.DocTestRunner(verbose=False).run(test, out=told.append)
        self.assertEqual(result.failed, 0, "".join(told))
        self.assertEqual(result.attempted, text.count(">>> "))

    def test_stage_1(self):
        self.holds(STAGE_1)


if __name__ == "__main__":
    unittest.main()
