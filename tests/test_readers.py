"""[3], [4], [90], [91] Readers: they read just what notation writes."""

import random
import unittest

from barelybetter.books import Book
from barelybetter.errors import NoText
from barelybetter.notation import show_answer, show_book, show_scale, show_table, show_walk
from barelybetter.readers import read_answer, read_book, read_scale, read_table, read_walk
from barelybetter.scales import Scale
from barelybetter.tables import Table
from tests import odd, oracle
from tests.odd import caught

ABC, FOUR = ["a", "b", "c"], ["a", "b", "c", "d"]
SIX = ["a", "b", "c", "d", "e", "f"]
READERS = (read_answer, read_walk, read_book, read_table, read_scale)


class ReadersTest(unittest.TestCase):

    def holds(self, read, good):
        for text, told in good:
            found = read(text)
            self.assertIs(type(found), type(told))
            self.assertTrue(found == told, text)

    def refuses(self, read, bad):
        for text in bad:
            self.assertIs(type(caught(read, text)), NoText, repr(text))

    def test_answers(self):
        self.holds(read_answer, [("a better b", ("a", "b", True)), ("milkmilk not tea", ("milkmilk", "tea", False))])
        self.refuses(read_answer, [
            "", "-", "a", "a better", "better", "a better a", "a not a", "a better b\n", " a better b", "a better b ",
            "a  better b", "a better  b", "a\tbetter b", "a open b", "a Better b", "A better b", "a better B", "a betterb",
            "a better b c", "a better b, b not c", "a not better b", "better a b", "a1 not b", "abcdefghi not b", "a not ",
            " not b", "a better \xe4", "a better b1", "a\nbetter\nb"])

    def test_walks(self):
        self.holds(read_walk, [
            ("-", []), ("a better b", [("a", "b", True)]), ("a better b, b not c", [("a", "b", True), ("b", "c", False)]),
            # They need not lead on, and may stand there twice and contradict each other.
            ("b not c, b not c, b better c", [("b", "c", False), ("b", "c", False), ("b", "c", True)])])
        self.refuses(read_walk, [
            "", " ", "--", "- ", "-, a better b", "a better b, -", "a better b,b not c", "a better b,  b not c",
            "a better b , b not c", "a better b, ", ", a better b", "a better b\n", "-\n", "a better b; b not c",
            "a better b, b open c", "a better b, b not b"])

    def test_books(self):
        self.holds(read_book, [
            ("things\n", Book([])), ("things a\n", Book(["a"])), ("things a b\n", Book(["b", "a"])),
            ("things a b c\na better b\nb not c\n", Book(ABC, [("b", "c", False), ("a", "b", True)])),
            ("things a ab\na not ab\nab not a\n", Book(["a", "ab"], [("ab", "a", False), ("a", "ab", False)])),
            # It need not be possible.
            ("things a b\na better b\nb better a\n", Book(["a", "b"], [("a", "b", True), ("b", "a", True)]))])
        self.refuses(read_book, [
            "", "\n", "things", "things ", "things \n", " things\n", "things\n\n", "\nthings\n", "thing\n", "Things\n",
            "things  a\n", "things a \n", "things b a\n", "things a a\n", "things a b a\n", "things A\n", "things a1\n",
            "things abcdefghi\n", "things\ta\n", "a b\n", "things a b", "things a b\na better b", "things a b\n\na better b\n",
            "things a b\na better b\n\n", "things a b\na better c\n", "things a b\nc not a\n", "things a b\na better a\n",
            "things a b\na open b\n", "things a b\na better b\na better b\n", "things a b\na not b\na better b\n",
            "things a b\na better b\na not b\n", "things a b c\nb not c\na better b\n", "things a b\n a better b\n",
            "things a b\na better b \n", "a better b\n", "a better b\nthings a b\n", "things a b\nthings a b\n",
            "things a b\na better b, b not a\n", "things a b\n-\n", "things\nthings\n", "things a b\r\n", "step 1\n"])

    def test_tables(self):
        self.holds(read_table, [
            ("things\n", Table([], [])), ("things a b c\n", Table(ABC, [])),
            ("things a b c\na better b\na better c\n", Table(ABC, [("a", "c"), ("a", "b")]))])
        self.refuses(read_table, [
            "", "things", "things a b\na not b\n", "things a b c\na better b\nb not a\n", "things b a\n", "things a a\n",
            "things a b c\na better c\na better b\n", "things a b c\na better b\na better b\n", "things a b\na better c\n",
            "things a b\na better b\nb better a\n", "things a b c\na better b\nb better c\n", "things a b\na better b",
            "things a b\na better b\n\n", "step 1\n",
            "things a b c d\na better b\nc better d\n", "things a b c d\na better b\na better c\nb better c\n"])

    def test_scales(self):
        far = 10 ** 40 - 1
        self.holds(read_scale, [
            ("step 1\n", Scale({}, 1)), ("step 3\na 0\nb -5\nc 12\n", Scale({"b": -5, "a": 0, "c": 12}, 3)),
            ("step 10\nab 10\nb 100\n", Scale({"ab": 10, "b": 100}, 10)),
            (f"step {far}\na -{far}\nb {far}\n", Scale({"a": -far, "b": far}, far))])
        self.refuses(read_scale, [
            "", "\n", "step\n", "step 1", "step  1\n", "step 1 \n", " step 1\n", "step 0\n", "step -1\n", "step 01\n",
            "step +1\n", "step 1.0\n", "step 1_0\n", "step 0x1\n", "step a\n", "steps 1\n", "Step 1\n", "a 1\n", "a 1\nstep 1\n",
            "step 1\n\n", "step 1\na\n", "step 1\na 1 \n", "step 1\na  1\n", "step 1\n a 1\n", "step 1\na -0\n",
            "step 1\na 00\n", "step 1\na 01\n", "step 1\na -01\n", "step 1\na --1\n", "step 1\na -\n", "step 1\na +1\n",
            "step 1\na 1-\n", "step 1\na - 1\n", "step 1\na b\n", "step 1\nb 0\na 0\n", "step 1\na 0\na 0\n",
            "step 1\nA 0\n", "step 1\nabcdefghi 0\n", "step 1\na 0", "step 1\na 0\n\nb 0\n", "step 1\nstep 1\nstep 2\n",
            "step 1\na \xb2\n", "step 1\na \u0663\n", "things\n", "step 1\n1 a\n",
            "step " + "1" * 41 + "\n", "step 1\na " + "9" * 41 + "\n", "step 1\na -1" + "0" * 40 + "\n",
            "step 1\na " + "0" * 40 + "\n"])

    def test_a_thing_called_step_or_better(self):
        self.holds(read_scale, [("step 2\nstep 1\n", Scale({"step": 1}, 2))])
        self.holds(read_book, [("things better not things\nbetter better not\nnot not better\nthings not better\n", Book(
            ["things", "not", "better"],
            [("better", "not", True), ("not", "better", False), ("things", "better", False)]))])

    def test_what_is_shown_is_read(self):
        chance = random.Random(211)
        for book in oracle.all_books(ABC)[::5] + oracle.some_books(SIX, 30, 212) + [Book([]), Book(["a"])]:
            text = show_book(book)
            self.assertTrue(read_book(text) == book)
            self.assertEqual(show_book(read_book(text)), text)
            walk = chance.choices(book.answers(), k=chance.randint(0, 6)) if len(book) else []
            self.assertEqual(read_walk(show_walk(walk)), walk)
            for answer in book:
                self.assertEqual(read_answer(show_answer(answer)), answer)
        for betters in oracle.some_tables(SIX, 20, 213):
            table = Table(SIX, list(betters))
            self.assertTrue(read_table(show_table(table)) == table)
            self.assertEqual(show_table(read_table(show_table(table))), show_table(table))
        for _ in range(60):
            worths = {thing: chance.randint(-10 ** chance.randint(0, 39), 10 ** chance.randint(0, 39)) for thing in FOUR}
            scale = Scale(worths, chance.randint(1, 10 ** chance.randint(0, 39)))
            self.assertTrue(read_scale(show_scale(scale)) == scale)
            self.assertEqual(show_scale(read_scale(show_scale(scale))), show_scale(scale))

    def test_texts_that_are_changed_in_one_place(self):
        texts = ["a better b", "a better b, b not c", "things a b c\na better b\nb not a\n", "step 12\na -5\nb 0\n",
                 "things a b c\na better b\na better c\n", "-", "things\n", "step 1\n"]
        shows = {read_answer: show_answer, read_walk: show_walk, read_book: show_book, read_table: show_table,
                 read_scale: show_scale}
        seen = 0
        for text in texts:
            for at in range(len(text) + 1):
                for part in ("", " ", "\n", "a", "b", "0", "-", "1", ",", "n", "A", text[at:at + 1] * 2):
                    for other in (text[:at] + part + text[at:], text[:at] + part + text[at + 1:]):
                        for read in READERS:
                            seen += self.is_read(read, shows[read], other)
        self.assertGreater(seen, 50)

    def is_read(self, read, show, text):
        """Whatever is read is shown as just this text."""
        try:
            found = read(text)
        except NoText:
            return 0
        self.assertEqual(show(found), text)
        return 1

    def test_many_things(self):
        names = sorted({x + y + z for x in "abcdefghijklm" for y in "abcdefghij" for z in "abcdefghij"})
        text = "things " + " ".join(names) + "\n"
        self.assertEqual((len(names), read_book(text).things()), (1300, names))
        self.assertEqual(show_table(read_table(text + "aaa better aab\n")), text + "aaa better aab\n")
        rows = "".join(f"{name} {at}\n" for at, name in enumerate(names))
        self.assertEqual(read_scale("step 7\n" + rows).worths(), {name: at for at, name in enumerate(names)})

    def test_any_value(self):
        for read in READERS:
            for value in odd.values() + [Table([], []), Scale({}, 1), ["things\n"], b"things\n", b"-", ("a", "b", True)]:
                self.assertIs(type(caught(read, value)), NoText)


if __name__ == "__main__":
    unittest.main()
