"""Values of many kinds, of which tests take those that are not as described, and what they raise."""

from barelybetter.books import Book

BIG = 10 ** 39


def caught(call, *given, **named):
    """Return the error that a call raises."""
    try:
        call(*given, **named)
    except ValueError as error:
        return error
    raise AssertionError("no error came")


def are_things(value):
    """Tell by other means whether a value is a list or a tuple of different names."""
    if not isinstance(value, (list, tuple)):
        return False
    return all(isinstance(one, str) and 0 < len(one) < 9 and one.isascii() and one.isalpha() and one.islower()
               for one in value) and len(value) == len(set(value))


def lists_in(value):
    """Return all lists within a value, also those within others."""
    if not isinstance(value, (list, tuple)):
        return []
    return ([value] if isinstance(value, list) else []) + [one for part in value for one in lists_in(part)]


def deep(many):
    """Return a list nested so many deep."""
    value = []
    for _ in range(many):
        value = [value]
    return value


def values():
    """Return values of many kinds: none is a list or a tuple of names or answers, but [] and ()."""
    return [
        None, True, False, 0, 1, -1, BIG, -BIG, "", "a", "tea", "milkmilk", "milkmilky", "Tea", "te a", "t1",
        "~", "\t\n", b"", b"tea", [], (), {}, set(), frozenset(), [None], [1], [True], [[]], ["a", "a"], ("a", "a"),
        ["a", 1], ["a", ""], ["abcdefghi"], [["a"]], [("a", "b", 1)], [("a", "b", 0)], [("a", "b", None)],
        [("a", "a", True)], [["a", "b", True]], [("a", "b")], [("a", "b", True, True)], [("a", "", True)],
        ("a", "b"), ("a", "b", 1), ("a", "b", 0), ("a", "b", "True"), ("a", "a", True), ("a", "a"), ("a",),
        ("A", "b", True), ("a", "bbbbbbbbb", False), ("a", "b", True, False), ["a", "b", True], ["a", "b"],
        (True, False), (1, 2), (("a", "b"), True), ([], []), ({}, set(), []), {"a": 1}, {"a": "b"}, {"a"}, {1: 2},
        deep(39), Book([]), Book(["a", "b"], [("a", "b", True)]), Book, len, object(), range(3), ["a"] * 20000,
        "a" * 20000,
    ]
