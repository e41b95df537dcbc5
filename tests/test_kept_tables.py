"""[3], [21], [42], [50], [60], [61], [70], [71] What Books and Tables keep of what was asked changes no answer."""

import random
import time
import unittest

from barelybetter.best import best_sets
from barelybetter.books import Book
from barelybetter.ends import follow, open_pairs, surely
from barelybetter.errors import BarelyError
from barelybetter.pins import other_table, pin_why, pins_down, pins_of
from barelybetter.questions import asking, best_question, fewest_questions
from barelybetter.scales import Scale
from barelybetter.spaces import Space
from barelybetter.tables import Table
from barelybetter.walls import neighbours, turns_alone, walls_of
from tests import oracle

ABC = ["a", "b", "c"]
FOUR = ["a", "b", "c", "d"]
SIX = ["a", "b", "c", "d", "e", "f"]
FULL = Scale({"a": 0, "b": 3, "c": 1, "d": 5, "e": 2, "f": 4}, 2).full_book()
TURN = dict(zip(SIX, ["zoo", "d", "b", "yak", "a", "c"]))


def told_of(value):
    """Return what a result tells, in lists and tuples of plain values."""
    if isinstance(value, Table):
        return ("table", value.things(), value.betters(), value.full_book().answers())
    if isinstance(value, list):
        return [told_of(one) for one in value]
    return value


def all_of_a_space(book, most):
    """Return all that a Space tells."""
    space = Space(book, most=most)
    pairs = Book(book.things()).untold()
    return [len(space), space.listed(), list(space), space.links(), space.farthest(), [space.counts(p) for p in pairs],
            [space.number(table) for table in space], space.between(space[0], space[len(space) - 1]),
            [table in space for table in space], space.book.answers()]


def calls_about(book, table):
    """Return all that can be asked about a book and a table: functions with what they take."""
    pairs = Book(book.things()).untold()
    answers = table.full_book().answers()
    calls = [(best_sets, book), (all_of_a_space, book, 400), (all_of_a_space, book, 3), (best_question, book)]
    calls += [(lambda given, most, call=call: call(given, most=most), book, most)
              for call in (best_question, fewest_questions, asking) for most in (2, 12)]
    calls += [(walls_of, book, table), (neighbours, book, table), (pins_of, book, table)]
    calls += [(turns_alone, book, table, pair) for pair in pairs]
    calls += [(pin_why, book, table, answer) for answer in answers]
    calls += [(follow, book, (x, y, truth)) for x, y in open_pairs(book) for truth in (True, False)]
    for said in (answers[::2], answers[1::2], []):
        calls += [(pins_down, book, table, said), (other_table, book, table, said)]
    return calls + [(table.fits, book), (surely(book).answers,)]


def asked(call):
    try:
        return told_of(call[0](*call[1:]))
    except BarelyError as error:
        return (error.__class__.__name__, sorted(vars(error).items()))


def asked_by_turns(book, table, order):
    """Return what all calls tell, in the order of the calls, asked in another order."""
    calls = calls_about(book, table)
    found = {number: asked(calls[number]) for number in order(list(range(len(calls))))}
    return [found[number] for number in range(len(calls))]


def straight(numbers):
    return numbers


def anew(book, table, seed):
    """Return an equal Book and an equal Table, with their parts handed in otherwise."""
    chance = random.Random(seed)
    answers = book.answers() * 2
    chance.shuffle(answers)
    return Book(tuple(book.things()[::-1]), answers), Table(tuple(table.things()[::-1]), table.betters()[::-1] * 2)


def books_and_tables():
    found = [(Book(ABC), Table(ABC, [("a", "c")])), (Book([]), Table([], [])), (Book(["a"]), Table(["a"], []))]
    for betters in oracle.some_tables(FOUR, 8, 141):
        found += [(book, Table(FOUR, list(betters))) for book in oracle.books_of(FOUR, betters, 2, len(found))]
    for betters in oracle.some_tables(SIX, 4, 142):
        said = [(x, y, (x, y) in betters) for x in SIX for y in SIX if x != y]
        found += [(Book(SIX, said[::2]), Table(SIX, list(betters))), (Book(SIX, said[:24]), Table(SIX, list(betters)))]
    return found


class KeptTest(unittest.TestCase):

    def test_twice_in_another_order_and_made_anew(self):
        for seed, (book, table) in enumerate(books_and_tables()):
            chance = random.Random(seed)
            first = asked_by_turns(book, table, straight)
            self.assertEqual(asked_by_turns(book, table, straight), first)
            for order in (lambda numbers: numbers[::-1], lambda numbers: chance.sample(numbers, len(numbers))):
                self.assertEqual(asked_by_turns(*anew(book, table, seed), order), first)
                self.assertEqual(asked_by_turns(book, table, order), first)

    def test_with_another_book_between(self):
        rows = books_and_tables()
        for (book, table), (other, another) in zip(rows, rows[1:]):
            first = [asked_by_turns(*anew(one, two, 1), straight) for one, two in ((book, table), (other, another))]
            # The same table in two books by turns, so that what is kept is that of the other one.
            calls, plain = calls_about(book, table), calls_about(Book(table.things()), table)
            found = [asked(call) for call in calls]
            for call, between in zip(calls, plain[::-1] * len(calls)):
                asked(between)
                self.assertEqual(asked(call), found[calls.index(call)])
            self.assertEqual(found, first[0])
            self.assertEqual(asked_by_turns(other, another, straight), first[1])

    def test_books_that_come_from_one_that_was_asked(self):
        for book, table in books_and_tables():
            asked_by_turns(book, table, straight)
            things, turn = book.things(), {thing: TURN[thing] for thing in book.things()}
            part = [pair for pair in table if pair[0] in things[1:] and pair[1] in things[1:]]
            half = Book(things, table.full_book().answers()[::3])
            found = [(book.only(things), table), (book.only(things[1:]), Table(things[1:], part)), (~book, ~table),
                     (book | half, table), (half | book, table), (book - half, table), (half - book, table),
                     (book.renamed(turn), Table(list(turn.values()), [(turn[x], turn[y]) for x, y in table]))]
            found += [(book.put(answer), table) for answer in table.full_book().answers()[::5]]
            found += [(book.out(answer), table) for answer in book.answers()[::4]]
            for one, two in found[::2] + found[1::2]:
                self.assertEqual(asked_by_turns(one, two, straight), asked_by_turns(*anew(one, two, 7), straight))

    def test_what_was_returned_can_be_changed(self):
        for book, table in books_and_tables():
            first = asked_by_turns(book, table, straight)
            space = Space(book, most=2000)
            for told in (best_sets(book), walls_of(book, table), neighbours(book, table), pins_of(book, table),
                         space.listed(), space.between(space[0], space[0]), open_pairs(book),
                         table.betters(), table.things(), book.answers(), book.things(), table.full_book().answers()):
                for part in told:
                    if isinstance(part, list):
                        part.append("z")
                told.reverse()
                told.append("z")
            for answer in table.full_book():
                pin_why(book, table, answer).append("z")
            self.assertEqual(asked_by_turns(book, table, straight), first)
            self.assertIsNot(space.listed(), Space(book, most=2000).listed())

    def test_turns_alone_says_what_walls_of_says(self):
        for book, table in books_and_tables():
            pairs = Book(book.things()).untold()
            self.assertEqual([pair for pair in pairs if turns_alone(book, table, pair)], walls_of(book, table))

    def test_tables_that_a_space_gives_are_like_those_that_are_made(self):
        for book in (Book(FOUR, [("a", "b", True)]), Book(SIX, FULL.answers()[::2])):
            space = Space(book)
            for table in space:
                made = Table(table.things(), table.betters())
                self.assertTrue(table == made and made == table)
                self.assertEqual((len(table), list(table), [table[pair] for pair in Book(table.things()).untold()]),
                                 (len(made), list(made), [made[pair] for pair in Book(made.things()).untold()]))
                self.assertTrue(~table == ~made and table.full_book() == made.full_book())
                self.assertEqual((table ^ ~table, table.within(made), made.within(table)), (made ^ ~made, True, True))
                self.assertIs(made in space, True)
                for one, other in zip(neighbours(book, table), neighbours(book, made)):
                    self.assertTrue(one == other and other == table.turned((table ^ one)[0]))

    def test_more_tables_than_most_by_turns(self):
        book = Book(FOUR, [("a", "b", True)])
        many = len(Space(Book(FOUR, [("a", "b", True)])))
        for most in (5, many - 1, 2, many, 5, many - 1, many + 1, 1, 400):
            for call in (Space, best_question):
                if most < many:
                    with self.assertRaises(BarelyError) as held:
                        call(book, most=most)
                    self.assertEqual(held.exception.most, most)
                else:
                    call(book, most=most)


class QuickTest(unittest.TestCase):
    """Some ten times as long as it takes, of a Book and a Table made anew for each call."""

    def hold_time(self, seconds, many, call):
        books = [Book(SIX, FULL.answers()[::3]) for _ in range(many)]
        tables = [Table(SIX, [pair for pair in Space(books[0])[100]]) for _ in range(many)]
        start = time.process_time()
        for book, table in zip(books, tables):
            call(book, table)
        self.assertLess((time.process_time() - start) / many, seconds)

    def test_spaces(self):
        self.hold_time(0.1, 5, lambda book, table: Space(book))
        self.hold_time(0.1, 5, lambda book, table: best_question(book))
        self.hold_time(0.1, 5, lambda book, table: Space(book).farthest())

    def test_best_sets(self):
        self.hold_time(0.003, 50, lambda book, table: best_sets(book))
        self.hold_time(0.005, 20, lambda book, table: best_sets(Book(SIX)))

    def test_walls_and_pins(self):
        answers = FULL.answers()
        self.hold_time(0.005, 20, lambda book, table: [turns_alone(book, table, answer[:2]) for answer in answers])
        self.hold_time(0.006, 20, lambda book, table: [pin_why(book, table, answer) for answer in table.full_book()])
        self.hold_time(0.001, 50, lambda book, table: other_table(book, table, []))
        self.hold_time(0.001, 50, lambda book, table: table.fits(book))

    def test_asking_again(self):
        book = Book(SIX, FULL.answers()[::3])
        table = Space(book)[100]
        start = time.process_time()
        for _ in range(20):
            Space(book)
            best_question(book)
            for answer in table.full_book():
                pin_why(book, table, answer)
                turns_alone(book, table, answer[:2])
        self.assertLess(time.process_time() - start, 0.3)


if __name__ == "__main__":
    unittest.main()
