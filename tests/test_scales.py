"""[3], [4], [40] Scales."""

import itertools
import unittest
from fractions import Fraction

from barelybetter.books import Book
from barelybetter.errors import NoThing, Ring, Unlike, Wrong
from barelybetter.rings import is_possible, ring_of
from barelybetter.scales import Scale, moments, plainest
from tests import odd, oracle

FAR = 10 ** 30


class ScaleTest(unittest.TestCase):

    def setUp(self):
        self.scale = Scale({"c": 0, "a": 5, "b": 2}, 2)

    def test_what_it_keeps(self):
        self.assertEqual(self.scale.things(), ["a", "b", "c"])
        self.assertEqual(list(self.scale.worths().items()), [("a", 5), ("b", 2), ("c", 0)])
        self.assertEqual(self.scale.step, 2)
        self.assertEqual([self.scale["a"], self.scale["b"], self.scale["c"]], [5, 2, 0])

    def test_no_things(self):
        empty = Scale({}, 1)
        self.assertEqual((empty.things(), empty.worths(), empty.step), ([], {}, 1))
        self.assertTrue(empty.full_book() == Book([]))
        self.assertIs(empty.fits(Book([])), True)
        self.assertIs(empty.fits(Book(["a"])), False)
        self.assertTrue(-empty + 3 == empty)

    def test_what_a_caller_changes_changes_no_scale(self):
        worths = {"a": 1, "b": 2}
        scale = Scale(worths, 1)
        worths["a"] = 9
        worths["c"] = 3
        scale.worths()["a"] = 7
        scale.things().append("z")
        self.assertEqual((scale.worths(), scale.things()), ({"a": 1, "b": 2}, ["a", "b"]))
        self.assertIsNot(scale.worths(), scale.worths())

    def test_the_order_of_the_keys_means_nothing(self):
        for names in itertools.permutations("abc"):
            scale = Scale({name: {"a": 5, "b": 2, "c": 0}[name] for name in names}, 2)
            self.assertTrue(scale == self.scale)
            self.assertEqual(list(scale.worths()), ["a", "b", "c"])
            self.assertEqual(list((scale + 1).worths()), ["a", "b", "c"])

    def test_the_step_is_not_assigned(self):
        with self.assertRaises(AttributeError):
            self.scale.step = 3

    def test_wrong_worths(self):
        more = [{"a": True}, {"a": False}, {"a": None}, {"a": "1"}, {"": 1}, {"abcdefghi": 1}, {"A": 1}, {1: 1},
                {None: 1}, {("a",): 1}, {"a": 1, "b": [2]}, {"a": 1, "B": 2}, [("a", 1)], (("a", 1),)]
        for value in odd.values() + more:
            if repr(value) in ("{}", "{'a': 1}"):
                self.assertEqual(Scale(value, 1).worths(), value)
                continue
            with self.assertRaises(Wrong) as held:
                Scale(value, 1)
            self.assertEqual(held.exception.place, 0)

    def test_wrong_step(self):
        for value in odd.values() + [0, -1, -FAR, True, False]:
            if value is not True and isinstance(value, int) and value >= 1:
                self.assertEqual(Scale({}, value).step, value)
                continue
            with self.assertRaises(Wrong) as held:
                Scale({"a": 1}, value)
            self.assertEqual(held.exception.place, 1)

    def test_the_first_wrong_argument(self):
        with self.assertRaises(Wrong) as held:
            Scale({"a": True}, True)
        self.assertEqual(held.exception.place, 0)

    def test_no_thing(self):
        for value in odd.values() + ["d", "aa", ("a", "b"), ["a"]]:
            if isinstance(value, str) and value == "a":
                continue
            with self.assertRaises(NoThing) as held:
                self.scale[value]
            self.assertIs(held.exception.thing, value)

    def test_a_scale_is_not_iterated_over(self):
        self.assertRaises(TypeError, list, self.scale)

    def test_better_from_more_than_a_step_on(self):
        self.assertIs(self.scale.is_better("a", "b"), True)
        self.assertIs(self.scale.is_better("b", "c"), False)
        self.assertIs(self.scale.is_better("b", "a"), False)
        self.assertIs(self.scale.is_better("a", "a"), False)
        self.assertIs(Scale({"a": FAR, "b": -FAR}, FAR).is_better("a", "b"), True)
        self.assertIs(Scale({"a": FAR, "b": 0}, FAR).is_better("a", "b"), False)
        self.assertIs(Scale({"a": FAR, "b": -1}, FAR).is_better("a", "b"), True)

    def test_full_book(self):
        told = [("a", "b", True), ("a", "c", True), ("b", "a", False), ("b", "c", False), ("c", "a", False),
                ("c", "b", False)]
        self.assertTrue(self.scale.full_book() == Book(["a", "b", "c"], told))
        self.assertTrue(Scale({"a": 4}, 1).full_book() == Book(["a"]))

    def test_fits(self):
        things = ["a", "b", "c"]
        self.assertIs(self.scale.fits(Book(things)), True)
        self.assertIs(self.scale.fits(self.scale.full_book()), True)
        self.assertIs(self.scale.fits(Book(things, [("a", "b", True), ("b", "c", False)])), True)
        self.assertIs(self.scale.fits(Book(things, [("a", "b", True), ("b", "c", True)])), False)
        self.assertIs(self.scale.fits(Book(things, [("a", "b", False)])), False)
        self.assertIs(self.scale.fits(Book(["a", "b"])), False)
        self.assertIs(self.scale.fits(Book(["a", "b", "c", "d"])), False)
        self.assertIs(self.scale.fits(Book(["a", "b", "x"])), False)

    def test_fits_no_book_that_is_not_possible(self):
        self.assertIs(self.scale.fits(Book(["a", "b", "c"], [("a", "b", True), ("b", "a", True)])), False)

    def test_plus(self):
        more = Scale({"a": 12, "b": 9, "c": 7}, 2)
        self.assertTrue(self.scale + 7 == more)
        self.assertTrue(7 + self.scale == more)
        self.assertTrue(more + -7 == self.scale)
        self.assertEqual((self.scale + FAR)["c"], FAR)
        self.assertEqual(self.scale.worths(), {"a": 5, "b": 2, "c": 0})

    def test_times(self):
        more = Scale({"a": 15, "b": 6, "c": 0}, 6)
        self.assertTrue(self.scale * 3 == more)
        self.assertTrue(3 * self.scale == more)
        self.assertTrue(self.scale * 1 == self.scale)
        self.assertTrue((3 * self.scale).full_book() == self.scale.full_book())
        self.assertEqual(self.scale.step, 2)

    def test_negative(self):
        self.assertTrue(-self.scale == Scale({"a": -5, "b": -2, "c": 0}, 2))
        self.assertTrue(-(-self.scale) == self.scale)
        self.assertTrue((-self.scale).full_book() == ~self.scale.full_book())

    def test_equality(self):
        self.assertFalse(self.scale == Scale({"a": 5, "b": 2, "c": 0}, 3))
        self.assertFalse(self.scale == Scale({"a": 5, "b": 2, "c": 1}, 2))
        self.assertFalse(self.scale == Scale({"a": 5, "b": 2}, 2))
        self.assertTrue(self.scale != self.scale * 2)
        for other in odd.values() + [self.scale.worths(), self.scale.full_book(), (self.scale.worths(), 2)]:
            self.assertIs(self.scale == other, False)
            self.assertIs(self.scale != other, True)


class PlainestTest(unittest.TestCase):

    def test_no_things_and_one_thing(self):
        self.assertTrue(plainest(Book([])) == Scale({}, 1))
        self.assertTrue(plainest(Book(["a"])) == Scale({"a": 0}, 1))
        self.assertTrue(plainest(Book(["a", "b"])) == Scale({"a": 0, "b": 0}, 2))

    def test_some(self):
        chain = Book(["a", "b", "c"], [("a", "b", True), ("b", "c", True)])
        self.assertTrue(plainest(chain) == Scale({"a": 8, "b": 4, "c": 0}, 3))
        near = Book(["a", "b", "c"], [("a", "b", True), ("a", "c", True), ("b", "c", False), ("c", "b", False)])
        self.assertTrue(plainest(near) == Scale({"a": 4, "b": 0, "c": 0}, 3))
        held = Book(["a", "b", "c"], [("a", "c", True), ("a", "b", False)])
        self.assertTrue(plainest(held) == Scale({"a": 4, "b": 1, "c": 0}, 3))

    def test_all_books_of_three_things(self):
        for book in oracle.all_books(["a", "b", "c"]):
            if not is_possible(book):
                with self.assertRaises(Ring) as held:
                    plainest(book)
                self.assertEqual(held.exception.ring, ring_of(book))
                continue
            scale = plainest(book)
            self.assertEqual(scale.step, 3)
            self.assertIs(scale.fits(book), True)
            self.assertEqual(scale.worths(), self.least_worths(book))

    def least_worths(self, book):
        """Return the least worths, by trying all that can be the least."""
        fitting = [worths for worths in itertools.product(range(9), repeat=3) if all(
            worths["abc".index(x)] >= worths["abc".index(y)] + 4 if truth else
            worths["abc".index(x)] <= worths["abc".index(y)] + 3 for x, y, truth in book)]
        least = [min(column) for column in zip(*fitting)]
        self.assertIn(tuple(least), fitting)
        return dict(zip("abc", least))

    def test_six_things(self):
        names = list("abcdef")
        chain = Book(names, [(x, y, True) for x, y in zip(names, names[1:])])
        self.assertEqual(list(plainest(chain).worths().values()), [35, 28, 21, 14, 7, 0])
        self.assertEqual(plainest(chain).step, 6)
        back = ~chain
        self.assertEqual(list(plainest(back).worths().values()), [0, 7, 14, 21, 28, 35])


class MomentsTest(unittest.TestCase):

    def times(self, one, other):
        """Return the same by fractions."""
        found = {}
        for x in one.things():
            for y in one.things():
                start = Fraction(one[x] - one[y], one.step)
                end = Fraction(other[x] - other[y], other.step)
                if x != y and (start > 1) != (end > 1):
                    found.setdefault((1 - start) / (end - start), []).append((x, y))
        return [(time.numerator, time.denominator, found[time]) for time in sorted(found)]

    def test_nothing_is_unlike(self):
        scale = Scale({"a": 0, "b": 4}, 3)
        self.assertEqual(moments(scale, scale), [])
        self.assertEqual(moments(scale, scale * 5 + 2), [])
        self.assertEqual(moments(Scale({}, 1), Scale({}, 4)), [])
        self.assertEqual(moments(Scale({"a": 1}, 1), Scale({"a": 9}, 4)), [])

    def test_times_0_and_1(self):
        far, near = Scale({"a": 5, "b": 0}, 2), Scale({"a": 2, "b": 0}, 2)
        self.assertEqual(moments(near, far), [(0, 1, [("a", "b")])])
        self.assertEqual(moments(far, near), [(1, 1, [("a", "b")])])
        self.assertEqual(moments(near, near), [])

    def test_several_pairs_at_one_time(self):
        one, other = Scale({"a": 0, "b": 0, "c": 0}, 1), Scale({"a": 2, "b": 2, "c": 0}, 1)
        self.assertEqual(moments(one, other), [(1, 2, [("a", "c"), ("b", "c")])])

    def test_the_order_of_the_times(self):
        one = Scale({"a": 0, "b": 0, "c": 0, "d": 0}, 1)
        other = Scale({"a": 10, "b": 7, "c": 3, "d": 0}, 1)
        self.assertEqual(moments(one, other), [
            (1, 10, [("a", "d")]), (1, 7, [("a", "c"), ("b", "d")]), (1, 4, [("b", "c")]),
            (1, 3, [("a", "b"), ("c", "d")])])

    def test_numbers_of_thirty_figures(self):
        one = Scale({"a": FAR, "b": 0, "c": -FAR, "d": 3}, FAR - 1)
        other = Scale({"a": -FAR, "b": FAR - 1, "c": 7, "d": -3}, 12345678901234567890123456789)
        self.assertEqual(moments(one, other), self.times(one, other))
        self.assertGreater(len(moments(one, other)), 2)
        close = Scale({"a": FAR, "b": 0}, FAR)
        self.assertEqual(moments(close, Scale({"a": FAR, "b": 0}, FAR - 1)), [(0, 1, [("a", "b")])])
        self.assertEqual(moments(close, Scale({"a": FAR, "b": -1}, FAR)), [(0, 1, [("a", "b")])])
        self.assertEqual(moments(Scale({"a": FAR - 1, "b": 0}, FAR), Scale({"a": FAR, "b": -1}, FAR)),
                         [(1, 2, [("a", "b")])])

    def test_against_fractions(self):
        for at in range(300):
            rows = [(at * 7 + k * k * 5 + at // (k + 1)) % 23 for k in range(12)]
            one = Scale(dict(zip("abcdef", rows)), 1 + at % 5)
            other = Scale(dict(zip("abcdef", rows[6:])), 1 + at % 7)
            told = moments(one, other)
            self.assertEqual(told, self.times(one, other))
            unlike = [pair for pair in one.full_book().answers() if pair not in other.full_book()]
            self.assertEqual(sum(len(pairs) for _, _, pairs in told), len(unlike))
            for a, b, _ in told:
                self.assertTrue(isinstance(a, int) and isinstance(b, int) and 0 <= a <= b and b >= 1)

    def test_unlike(self):
        scale = Scale({"a": 0, "b": 4}, 3)
        for other in (Scale({"a": 0}, 3), Scale({}, 3), Scale({"a": 0, "c": 4}, 3), Scale({"a": 0, "b": 4, "c": 0}, 3)):
            self.assertRaises(Unlike, moments, scale, other)
            self.assertRaises(Unlike, moments, other, scale)

    def test_what_was_returned_is_new(self):
        one, other = Scale({"a": 0, "b": 0}, 1), Scale({"a": 2, "b": 0}, 1)
        moments(one, other)[0][2].clear()
        self.assertEqual(moments(one, other), [(1, 2, [("a", "b")])])


if __name__ == "__main__":
    unittest.main()
