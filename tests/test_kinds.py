"""[2], [20] Integers, names, pairs and answers."""

import unittest

from barelybetter.kinds import (
    contrary, ends_of, is_answer, is_integer, is_name, is_pair, mirrored, pair_of,
)
from tests import odd


class KindsTest(unittest.TestCase):

    def truth(self, expected, value):
        """An assertion that never takes 1 and 0 for True and False."""
        self.assertIs(value, expected)

    def test_integers(self):
        for thing in (0, 1, -1, 10 ** 40, -10 ** 40):
            self.truth(True, is_integer(thing))
        for thing in (True, False, None, "", "1", b"1", [], [1], (1,), {}, {1}, int):
            self.truth(False, is_integer(thing))

    def test_names(self):
        for thing in ("a", "z", "tea", "abcdefgh", "zzzzzzzz"):
            self.truth(True, is_name(thing))
        for thing in ("", "abcdefghi", "A", "aB", "a b", " ", "a1", "1", "a_b", "-", "a\n", "\ta", "\u00e4", "a~", "`",
                      "{", "\u0430", "a" * 20000, b"a", ["a"], ("a",), {"a"}, {"a": 1}, None, True, 0):
            self.truth(False, is_name(thing))

    def test_pairs(self):
        for thing in (("a", "b"), ("b", "a"), ("tea", "milk"), ("abcdefgh", "h")):
            self.truth(True, is_pair(thing))
        for thing in (("a", "a"), ["a", "b"], ("a",), ("a", "b", "c"), ("a", "b", True), (), "ab", ("a", ""), ("A", "b"),
                      ("abcdefghi", "a"), ("a", None), (1, 2), (["a"], ["b"]), {"a", "b"}, {"a": "b"}, None, True):
            self.truth(False, is_pair(thing))

    def test_answers(self):
        for thing in (("a", "b", True), ("a", "b", False), ("b", "a", True), ("abcdefgh", "b", False)):
            self.truth(True, is_answer(thing))
        for thing in (("a", "b", 1), ("a", "b", 0), ("a", "b", None), ("a", "b", "True"), ("a", "a", True), ("a", "b"),
                      ["a", "b", True], ("a", "b", True, True), (True, "a", "b"), ("a", "abcdefghi", True),
                      ("", "b", True), (("a", "b"), True), ("a", "b", []), (), None, True, "ab", {"a": True}):
            self.truth(False, is_answer(thing))

    def test_any_value_is_taken(self):
        for thing in odd.values():
            for is_one in (is_integer, is_name, is_pair, is_answer):
                self.assertIn(is_one(thing), (True, False))
                self.assertIsInstance(is_one(thing), bool)

    def test_pair_of(self):
        self.assertEqual(pair_of(("a", "b", True)), ("a", "b"))
        self.assertEqual(pair_of(("b", "a", False)), ("b", "a"))

    def test_contrary(self):
        for answer, other in ((("a", "b", True), ("a", "b", False)), (("b", "a", False), ("b", "a", True))):
            self.assertEqual(contrary(answer), other)
            self.truth(other[2], contrary(answer)[2])
            self.assertEqual(contrary(contrary(answer)), answer)

    def test_mirrored(self):
        self.assertEqual(mirrored(("a", "b", True)), ("b", "a", True))
        self.assertEqual(mirrored(("a", "b", False)), ("b", "a", False))
        self.truth(False, mirrored(("a", "b", False))[2])

    def test_ends_of(self):
        self.assertEqual(ends_of(("a", "b", True)), ("a", "b"))
        self.assertEqual(ends_of(("a", "b", False)), ("b", "a"))
        self.assertEqual(ends_of(("juice", "tea", False)), ("tea", "juice"))

    def test_all_of_them_are_tuples(self):
        for told in (pair_of, contrary, mirrored, ends_of):
            self.assertIsInstance(told(("a", "b", False)), tuple)


if __name__ == "__main__":
    unittest.main()
