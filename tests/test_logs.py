"""[3], [4], [21], [31], [92] Logs."""

import random
import unittest

from barelybetter.books import Book
from barelybetter.errors import (
    BarelyError, Full, NoDeed, NoEntry, NoPair, Nothing, Refused, Ring, Unfit, Wrong)
from barelybetter.logs import Log
from barelybetter.rings import is_possible, ring_of
from barelybetter.scales import Scale
from barelybetter.tables import Table
from tests import odd, oracle
from tests.odd import caught

AB, ABC = ["a", "b"], ["a", "b", "c"]
SIX = ["a", "b", "c", "d", "e", "f"]
A_B, B_A = ("a", "b", True), ("b", "a", True)
SAY = ("say", ("a", "b"), True)


def state(log):
    """Return all that a Log tells, also what can be done again."""
    again = []
    copy = log.copied()
    while not isinstance(tried(copy.again), Nothing):
        again.append(copy.deeds()[-1])
    return (log.book.things(), log.book.answers(), log.first.things(), log.first.answers(), log.deeds(), len(log), again)


def tried(call, *given):
    """Return what a call returns, or the error that it raises."""
    try:
        return call(*given)
    except BarelyError as error:
        return error


def book_behind(first, deeds):
    """Return the Book behind some deeds, by plain dicts."""
    things, truths = set(first.things()), {answer[:2]: answer[2] for answer in first}
    for deed in deeds:
        if deed[0] == "say":
            truths[deed[1]] = deed[2]
        if deed[0] == "add":
            things.add(deed[1])
        if deed[0] == "drop":
            things.discard(deed[1])
            truths = {pair: truth for pair, truth in truths.items() if deed[1] not in pair}
        if deed[0] == "name":
            turn = {deed[1]: deed[2]}
            things = {turn.get(thing, thing) for thing in things}
            truths = {tuple(turn.get(thing, thing) for thing in pair): truth for pair, truth in truths.items()}
    return Book(sorted(things), [(*pair, truth) for pair, truth in truths.items() if truth is not None])


def drawn_deed(chance, log):
    """Return a deed, of which most can be done."""
    names = sorted(set(log.book.things()) | {"x", "y", "z"})
    kind = chance.random()
    if kind < 0.7 and len(log.book.things()) > 1:
        return ("say", tuple(chance.sample(log.book.things(), 2)), chance.choice([True, False, False, None]))
    if kind < 0.8:
        return ("add", chance.choice(names))
    if kind < 0.87:
        return ("drop", chance.choice(names))
    if kind < 0.95:
        return ("name", chance.choice(names), chance.choice(names))
    return ("say", tuple(chance.sample(names, 2)), True)


class MakingTest(unittest.TestCase):

    def test_wrong(self):
        for value in odd.values() + [Scale({}, 1), Table([], []), Log(Book([])), Log]:
            if not isinstance(value, Book):
                error = caught(Log, value)
                self.assertIs(type(error), Wrong)
                self.assertEqual(error.place, 0)

    def test_ring(self):
        book = Book(ABC, [B_A, A_B, ("a", "c", True)])
        error = caught(Log, book)
        self.assertIs(type(error), Ring)
        self.assertEqual(error.ring, ring_of(book))

    def test_at_the_beginning(self):
        book = Book(AB, [A_B])
        log = Log(book)
        self.assertTrue(log.book == book and log.first == book)
        self.assertEqual((len(log), log.deeds(), log.MOST, Log.MOST), (0, [], 200, 200))
        for call in (log.back, log.again):
            self.assertIs(type(caught(call)), Nothing)
        for name in ("book", "first"):
            with self.assertRaises(AttributeError):
                setattr(log, name, book)
        with self.assertRaises(TypeError):
            list(log)


class DeedsTest(unittest.TestCase):

    def test_each_kind(self):
        log = Log(Book(AB, [A_B]))
        rows = [(("say", ("b", "a"), False), AB, [A_B, ("b", "a", False)]),
                (("say", ("a", "b"), False), AB, [("a", "b", False), ("b", "a", False)]),
                (("say", ("a", "b"), None), AB, [("b", "a", False)]),
                (("add", "c"), ABC, [("b", "a", False)]),
                (("say", ("c", "b"), True), ABC, [("b", "a", False), ("c", "b", True)]),
                (("name", "b", "zoo"), ["a", "c", "zoo"], [("c", "zoo", True), ("zoo", "a", False)]),
                (("drop", "zoo"), ["a", "c"], []),
                (("drop", "a"), ["c"], []), (("drop", "c"), [], []), (("add", "abcdefgh"), ["abcdefgh"], [])]
        for many, (deed, things, answers) in enumerate(rows):
            self.assertIsNone(log.do(deed))
            self.assertEqual((log.book.things(), log.book.answers(), len(log)), (things, answers, many + 1))
        self.assertEqual(log.deeds(), [deed for deed, _, _ in rows])
        self.assertEqual((log.first.things(), log.first.answers()), (AB, [A_B]))

    def test_a_deed_that_changes_nothing_is_one(self):
        log = Log(Book(AB, [A_B]))
        for deed in (SAY, ("say", ("b", "a"), None)):
            log.do(deed)
        self.assertEqual((log.deeds(), log.book.answers()), ([SAY, ("say", ("b", "a"), None)], [A_B]))
        self.assertEqual((log.back(), log.back()), (("say", ("b", "a"), None), SAY))

    def test_no_deed(self):
        log = Log(Book(AB))
        log.do(SAY)
        log.do(("add", "c"))
        log.back()
        first = state(log)
        bad = [list(SAY), ("say", ["a", "b"], True), ("say", ("a", "b")), ("say", ("a", "b"), True, True), ("say", "a", "b"),
               ("say", ("a", "b"), 1), ("say", ("a", "b"), 0), ("say", ("a", "b"), "True"), ("say", ("a", "a"), True),
               ("say", ("a", "B"), True), ("say", ("a", "b", "c"), True), ("say", ("a", ""), None), ("Say", ("a", "b"), True),
               ("say", "a", "b", True), ("say",), ("say", "a"), ("add",), ("add", ""), ("add", "C"), ("add", 1), ("add", None),
               ("add", "abcdefghi"), ("add", "c", "d"), ("add", ["c"]), ["add", "c"], ("drop",), ("drop", "a", "b"),
               ("drop", ("a",)), ("name", "a"), ("name", "a", "b", "c"), ("name", "a", 1), ("name", None, "c"),
               ("name", ("a", "b")), ("name", ("a", "b"), "c"), ("put", "c"), (None, "c"), ((), "c"), ("", ""), (), "add c",
               {"add": "c"}, (Book(AB), "a"), (True, ("a", "b"), True), A_B]
        for value in bad + odd.values():
            self.assertIs(type(caught(log.do, value)), NoDeed, value)
            self.assertEqual(state(log), first)

    def test_refused(self):
        log = Log(Book(AB, [A_B]))
        log.do(("say", ("b", "a"), False))
        log.back()
        first = state(log)
        for deed in (("say", ("a", "c"), True), ("say", ("c", "a"), False), ("say", ("x", "y"), None), ("add", "a"),
                     ("drop", "c"), ("name", "c", "d"), ("name", "a", "b"), ("name", "a", "a"), ("name", "c", "a"),
                     ("name", "c", "c")):
            error = caught(log.do, deed)
            self.assertIs(type(error), Refused)
            self.assertIs(error.deed, deed)
            self.assertEqual(state(log), first)

    def test_a_seventh_thing(self):
        log = Log(Book(SIX[:5]))
        log.do(("add", "f"))
        error = caught(log.do, ("add", "g"))
        self.assertIs(type(error), Refused)
        self.assertEqual((error.deed, len(log)), (("add", "g"), 1))
        log.do(("name", "f", "g"))
        self.assertIs(type(caught(log.do, ("add", "f"))), Refused)
        log.do(("drop", "a"))
        log.do(("add", "f"))
        self.assertEqual(log.book.things(), ["b", "c", "d", "e", "f", "g"])

    def test_ring(self):
        log = Log(Book(ABC, [A_B, ("b", "c", True)]))
        log.do(("say", ("b", "a"), False))
        log.back()
        first = state(log)
        for deed in (("say", ("b", "a"), True), ("say", ("c", "a"), True), ("say", ("a", "c"), False)):
            error = caught(log.do, deed)
            self.assertIs(type(error), Ring)
            self.assertEqual(error.ring, ring_of(Book(ABC, [A_B, ("b", "c", True), (*deed[1], deed[2])])))
            self.assertEqual(state(log), first)
        # The answer about the pair that was there goes first.
        log.do(("say", ("a", "b"), None))
        log.do(("say", ("c", "a"), True))
        self.assertEqual(log.book.answers(), [("b", "c", True), ("c", "a", True)])
        self.assertEqual(caught(log.do, SAY).ring, [A_B, ("b", "c", True), ("c", "a", True)])

    def test_two_hundred_deeds(self):
        log = Log(Book(AB, [A_B]))
        for _ in range(200):
            log.do(("say", ("b", "a"), False))
        first = state(log)
        self.assertEqual(len(log), 200)
        # NoDeed ahead of Full, Full ahead of Refused and of Ring.
        self.assertIs(type(caught(log.do, ("say", ("a", "b"), 1))), NoDeed)
        for deed in (SAY, ("add", "a"), ("drop", "zz"), ("say", ("a", "zz"), True), ("say", ("b", "a"), True)):
            error = caught(log.do, deed)
            self.assertIs(type(error), Full)
            self.assertEqual(error.limit, 200)
            self.assertEqual(state(log), first)
        log.back()
        # Refused ahead of Ring; nothing is changed, so that the deed can be done again.
        self.assertIs(type(caught(log.do, ("say", ("b", "zz"), True))), Refused)
        self.assertIs(type(caught(log.do, ("say", ("b", "a"), True))), Ring)
        log.again()
        self.assertEqual(state(log), first)
        log.back()
        log.do(("add", "c"))
        self.assertIs(type(caught(log.again)), Nothing)
        self.assertEqual((len(log), type(caught(log.do, SAY))), (200, Full))

    def test_drawn_deeds(self):
        kinds = set()
        for seed in range(40):
            chance, log = random.Random(seed), Log(Book(SIX[:seed % 7]))
            deeds, undone = [], []
            for _ in range(60):
                what = chance.random()
                if what < 0.15:
                    self.assertEqual(tried(log.back) if deeds else type(tried(log.back)), deeds[-1] if deeds else Nothing)
                    undone += deeds[-1:]
                    deeds = deeds[:-1]
                elif what < 0.3:
                    self.assertEqual(tried(log.again) if undone else type(tried(log.again)), undone[-1] if undone else Nothing)
                    deeds += undone[-1:]
                    undone = undone[:-1]
                else:
                    deed = drawn_deed(chance, log)
                    error = tried(log.do, deed)
                    kinds.add(type(error))
                    if error is None:
                        deeds, undone = deeds + [deed], []
                    if isinstance(error, Ring):
                        self.assertEqual(error.ring, ring_of(book_behind(log.book, [deed])))
                self.assertEqual(log.deeds(), deeds)
                self.assertTrue(log.book == book_behind(log.first, deeds))
                self.assertIs(is_possible(log.book), True)
        self.assertEqual(kinds, {type(None), Refused, Ring})


class PairsTest(unittest.TestCase):

    def test_asked(self):
        log = Log(Book(ABC, [A_B, ("b", "a", False)]))
        self.assertEqual([log["a", "b"], log["b", "a"], log["a", "c"]], [True, False, None])
        for value in odd.values() + [("a", "x"), ("a", "a"), ["a", "b"], "ab", 0, A_B]:
            if value != ("a", "b") or not isinstance(value, tuple):
                error = caught(log.__getitem__, value)
                self.assertIs(type(error), NoPair)
                self.assertIs(error.pair, value)

    def test_set(self):
        log = Log(Book(ABC))
        log["a", "b"] = True
        log["b", "a"] = False
        log["a", "b"] = None
        self.assertEqual(log.deeds(), [SAY, ("say", ("b", "a"), False), ("say", ("a", "b"), None)])
        self.assertEqual(log.book.answers(), [("b", "a", False)])
        log["a", "b"] = True
        first = state(log)
        for pair, truth, kind in ((("a", "a"), True, NoDeed), (["a", "b"], True, NoDeed), (("a", "b"), 1, NoDeed), (0, None, NoDeed),
                                  (("a", "b", "c"), True, NoDeed), (("a", "x"), True, Refused), (("b", "a"), True, Ring)):
            self.assertIs(type(caught(log.__setitem__, pair, truth)), kind)
            self.assertEqual(state(log), first)
        self.assertEqual(caught(log.__setitem__, ("a", "x"), True).deed, ("say", ("a", "x"), True))
        for value in odd.values():
            if value not in (True, False, None) or isinstance(value, int) and not isinstance(value, bool):
                self.assertIs(type(caught(log.__setitem__, ("a", "b"), value)), NoDeed)


class BackAndAgainTest(unittest.TestCase):

    def test_both_ends(self):
        log = Log(Book(AB))
        deeds = [SAY, ("add", "c"), ("drop", "a"), ("name", "b", "d")]
        for deed in deeds:
            log.do(deed)
        self.assertIs(type(caught(log.again)), Nothing)
        self.assertEqual([log.back() for _ in deeds], deeds[::-1])
        self.assertIs(type(caught(log.back)), Nothing)
        self.assertTrue(log.book == Book(AB) and len(log) == 0)
        self.assertEqual([log.again() for _ in deeds], deeds)
        self.assertIs(type(caught(log.again)), Nothing)
        self.assertTrue(log.book == book_behind(Book(AB), deeds))

    def test_no_deed_may_be_done_since(self):
        log = Log(Book(AB))
        log.do(SAY)
        log.do(("add", "c"))
        log.back()
        log.back()
        self.assertIs(type(caught(log.do, ("add", "a"))), Refused)
        self.assertEqual(log.again(), SAY)
        log.do(("add", "d"))
        self.assertIs(type(caught(log.again)), Nothing)
        self.assertEqual(log.deeds(), [SAY, ("add", "d")])

    def test_past(self):
        log = Log(Book(AB))
        deeds = [SAY, ("add", "c"), ("say", ("a", "b"), None), ("drop", "b")]
        for deed in deeds:
            log.do(deed)
        log.back()
        first = state(log)
        for many in range(4):
            past = log.past(many)
            self.assertEqual(past.deeds(), deeds[:many])
            self.assertTrue(past.book == book_behind(Book(AB), deeds[:many]) and past.first == Book(AB))
            self.assertIs(type(caught(past.again)), Nothing)
            past.do(("add", "zoo"))
            self.assertEqual(state(log), first)
        for value in odd.values() + [4, 5, -1, True, False, "0", (0,), [0], 10 ** 39, 3 + 1]:
            if type(value) is int and 0 <= value <= 3:
                self.assertEqual(len(log.past(value)), value)
            else:
                error = caught(log.past, value)
                self.assertIs(type(error), NoEntry)
                self.assertIs(error.many, value)

    def test_copied(self):
        log = Log(Book(AB))
        for deed in (SAY, ("add", "c"), ("drop", "b")):
            log.do(deed)
        log.back()
        log.back()
        copy = log.copied()
        self.assertTrue(copy == log)
        self.assertEqual(state(copy), state(log))
        first = state(log)
        self.assertEqual((copy.again(), copy.back(), copy.back()), (("add", "c"), ("add", "c"), SAY))
        copy.do(("name", "a", "x"))
        self.assertEqual(state(log), first)
        kept = state(copy)
        log.again()
        log["a", "c"] = False
        self.assertEqual(state(copy), kept)

    def test_equal(self):
        one, other = Log(Book(AB)), Log(Book(["b", "a"]))
        self.assertTrue(one == other)
        one.do(SAY)
        self.assertFalse(one == other)
        other["a", "b"] = True
        self.assertTrue(one == other and not one != other)
        # What can be done again does not count, but how the Book came does.
        one.do(("add", "c"))
        one.back()
        self.assertTrue(one == other)
        self.assertFalse(Log(Book(AB, [A_B])) == one)
        one["a", "b"] = True
        self.assertFalse(one == other)
        for value in odd.values() + [one.book, one.deeds(), Table(AB, []), Scale({}, 1)]:
            self.assertIs(one == value, False)
            self.assertIs(value == one, False)

    def test_what_was_returned_can_be_changed(self):
        book = Book(AB)
        log = Log(book)
        log.do(SAY)
        log.deeds().clear()
        log.book.answers().clear()
        self.assertEqual((log.deeds(), log.book.answers(), book.answers()), ([SAY], [A_B], []))
        self.assertIsNot(log.deeds(), log.deeds())
        caught(log.do, ("say", ("b", "a"), True)).ring.clear()
        self.assertEqual(caught(log.do, ("say", ("b", "a"), True)).ring, [A_B, B_A])


class TrialTest(unittest.TestCase):

    def some_log(self):
        log = Log(Book(AB))
        for deed in (SAY, ("add", "c"), ("drop", "b"), ("add", "d")):
            log.do(deed)
        log.back()
        log.back()
        return log

    def test_that_ends_well(self):
        log = self.some_log()
        first, seen = state(log), []

        def act(given):
            seen.append(given)
            given.back()
            given.do(("add", "zoo"))
            given["a", "zoo"] = True
            return (given.book.answers(), len(given), given)

        answers, many, given = log.trial(act)
        self.assertEqual((answers, many), ([A_B, ("a", "zoo", True)], 3))
        self.assertTrue(given is log and seen[0] is log)
        self.assertEqual(state(log), first)
        self.assertIsNone(log.trial(lambda given: [given.again(), None][1]))
        self.assertEqual(state(log), first)

    def test_that_ends_by_an_error(self):
        log = self.some_log()
        first = state(log)

        class Own(Exception):
            pass

        def own(given):
            given.back()
            given.back()
            raise Own("z")

        def of_the_package(given):
            given.again()
            given["a", "b"] = True

        def nothing(given):
            while True:
                given.back()

        for act, kind in ((own, Own), (of_the_package, Refused), (nothing, Nothing), (lambda given: 1 // 0, ZeroDivisionError),
                          (lambda given: given.do(None), NoDeed), (lambda: None, TypeError), (None, TypeError)):
            with self.assertRaises(kind) as held:
                log.trial(act)
            self.assertIs(type(held.exception), kind)
            self.assertEqual(state(log), first)

    def test_within_each_other(self):
        log = self.some_log()
        first = state(log)

        def inner(given):
            given.do(("add", "x"))
            inside = state(given)
            self.assertEqual(given.trial(lambda one: one.back()), ("add", "x"))
            self.assertEqual(state(given), inside)
            with self.assertRaises(Unfit):
                given.trial(failing)
            self.assertEqual(state(given), inside)
            with self.assertRaises(KeyError):
                given.trial(lambda one: [one.back(), {}["z"]])
            self.assertEqual(state(given), inside)
            return len(given)

        def failing(given):
            given.do(("drop", "a"))
            raise Unfit()

        self.assertEqual(log.trial(inner), 3)
        self.assertEqual(state(log), first)
        self.assertEqual(log.trial(lambda one: one.trial(lambda two: two.trial(inner))), 3)
        self.assertEqual(state(log), first)
        log.again()
        self.assertEqual(len(log), 3)

    def test_a_log_that_is_full(self):
        log = Log(Book(AB))
        for _ in range(199):
            log.do(SAY)
        self.assertIs(type(caught(log.trial, lambda given: [given.do(SAY), given.do(SAY)])), Full)
        self.assertEqual(len(log), 199)
        log.do(SAY)
        self.assertEqual(len(log), 200)


if __name__ == "__main__":
    unittest.main()
