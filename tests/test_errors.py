"""[4], [20] The errors: their classes and fields."""

import unittest

from barelybetter import errors
from barelybetter.errors import BarelyError

FIELDS = {
    "Wrong": "place", "NoThing": "thing", "Clash": "pair", "NoPair": "pair", "NoAnswer": "answer", "Ring": "ring",
    "Unlike": None, "NoTable": "pattern", "Unfit": None, "TooMany": "most", "NoNumber": "index", "NoRatio": "barred",
    "NoWorths": None, "NoText": None, "NoDeed": None, "Full": "limit", "Refused": "deed", "Nothing": None,
    "NoEntry": "many", "NoCommand": None,
}


class ErrorsTest(unittest.TestCase):

    def test_barely_error_is_a_value_error(self):
        self.assertTrue(issubclass(BarelyError, ValueError))

    def test_each_class_stands_under_barely_error_and_under_no_other(self):
        for name in FIELDS:
            kind = getattr(errors, name)
            self.assertTrue(issubclass(kind, BarelyError), name)
            self.assertTrue(issubclass(kind, ValueError), name)
            for other in FIELDS:
                self.assertEqual(issubclass(kind, getattr(errors, other)), name == other, (name, other))

    def test_no_other_errors_stand_there(self):
        kinds = [name for name, value in vars(errors).items() if isinstance(value, type)]
        self.assertEqual(sorted(kinds), sorted(list(FIELDS) + ["BarelyError"]))
        self.assertEqual({getattr(errors, name).__module__ for name in kinds}, {"barelybetter.errors"})

    def test_the_very_object_is_kept(self):
        for name, field in FIELDS.items():
            if field is None:
                continue
            for value in ([1], {"a": []}, None, True, 10 ** 5000, "x" * 9000, object(), (("a", "b"),), {1, 2}, len):
                error = getattr(errors, name)(value)
                self.assertIs(getattr(error, field), value)
                named = getattr(errors, name)(**{field: value})
                self.assertIs(getattr(named, field), value)

    def test_a_field_follows_the_object_as_it_changes(self):
        ring = []
        error = errors.Ring(ring)
        ring.append(("a", "b", True))
        self.assertEqual(error.ring, [("a", "b", True)])

    def test_those_without_a_field_take_no_argument(self):
        for name, field in FIELDS.items():
            kind = getattr(errors, name)
            if field is None:
                self.assertIsInstance(kind(), kind)
            else:
                self.assertRaises(TypeError, kind)

    def test_they_can_be_raised_and_caught(self):
        for name, field in FIELDS.items():
            kind = getattr(errors, name)
            for caught in (kind, BarelyError, ValueError):
                with self.assertRaises(caught):
                    raise kind() if field is None else kind(7)


if __name__ == "__main__":
    unittest.main()
