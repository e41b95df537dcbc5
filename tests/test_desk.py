"""[3], [4], [41], [42], [70], [71], [90], [92], [93] Desks; [1] the whole program, led by lines."""

import random
import time
import unittest

from barelybetter.best import possibly_best, surely_best
from barelybetter.books import Book
from barelybetter.desk import Desk
from barelybetter.ends import apart, surely, why
from barelybetter.errors import BarelyError, NoCommand, Refused, Ring, TooMany, Wrong
from barelybetter.logs import Log
from barelybetter.notation import show_book, show_end, show_scale, show_walk
from barelybetter.questions import best_question
from barelybetter.readers import read_book, read_scale, read_walk
from barelybetter.rings import is_ring, ring_of
from barelybetter.scales import plainest
from barelybetter.spaces import Space
from tests import odd
from tests.odd import are_things, caught

SIX = ["a", "b", "c", "d", "e", "f"]
TRUTHS = {"better": True, "not": False, "open": None}
QUESTIONS = ("book", "sure", "worths", "best", "question", "tables")


def deed_of(line):
    """Return the deed that a line does."""
    words = line.split(" ")
    return ("say", (words[1], words[3]), TRUTHS[words[2]]) if words[0] == "say" else tuple(words)


def drawn_line(chance, things):
    """Return a line that does something, of which most can be done."""
    names = sorted(set(things) | {"x", "y", "zebra"})
    kind = chance.random()
    if kind < 0.6 and len(things) > 1:
        x, y = chance.sample(things, 2)
        return f"say {x} {chance.choice(['better', 'not', 'not', 'open'])} {y}"
    if kind < 0.7:
        return f"add {chance.choice(names)}"
    if kind < 0.76:
        return f"drop {chance.choice(names)}"
    if kind < 0.82:
        return f"name {chance.choice(names)} {chance.choice(names)}"
    return chance.choice(["back", "back", "again", f"say {names[0]} not {names[-1]}"])


def expected(book, line):
    """Return the text that a line that asks has to get, by the functions of the other files, of a Book made anew."""
    book = Book(book.things(), book.answers())
    words = line.split(" ")
    if words[0] == "apart":
        if not {words[1], words[2]} <= set(book.things()):
            return "refused"
        return ", ".join(show_end(end) for end in apart(book, words[1], words[2]))
    if words[0] == "why":
        if not {words[1], words[3]} <= set(book.things()):
            return "refused"
        walk = why(book, (words[1], words[3], TRUTHS[words[2]]))
        return "open" if walk is None else show_walk(walk)
    if line == "best":
        return "; ".join(" ".join(call(book)) or "-" for call in (surely_best, possibly_best))
    if line in ("question", "tables"):
        try:
            found = len(Space(book)) if line == "tables" else best_question(book)
        except TooMany:
            return "many"
        return str(found) if line == "tables" else " ".join(found or ["none"])
    return {"book": show_book, "sure": lambda one: show_book(surely(one)), "worths": lambda one: show_scale(plainest(one))}[line](book)


def asking_lines(things):
    names = things + ["x"]
    return list(QUESTIONS) + [f"apart {x} {y}" for x in names for y in names] + [
        f"why {x} {word} {y}" for x in names for y in names if x != y for word in ("better", "not")]


class MakingTest(unittest.TestCase):

    def test_wrong(self):
        for value in odd.values() + [list("abcdefg"), tuple("abcdefg"), "abc", Book(["a"]), ["a", "b", "a"]]:
            if are_things(value) and len(value) <= 6:
                Desk(value)
            else:
                error = caught(Desk, value)
                self.assertIs(type(error), Wrong)
                self.assertEqual(error.place, 0)

    def test_things(self):
        self.assertEqual(Desk([]).execute("book"), "things\n")
        self.assertEqual(Desk(("b", "a")).execute("book"), "things a b\n")
        things = list(SIX)
        desk = Desk(things)
        things.clear()
        self.assertEqual(desk.execute("book"), "things a b c d e f\n")


class LinesTest(unittest.TestCase):

    def says(self, desk, rows):
        for line, text in rows:
            self.assertEqual(desk.execute(line), text, line)

    def test_deeds(self):
        self.says(Desk(["tea", "milk"]), [
            ("say tea better milk", "ok"), ("say milk better tea", "ring milk better tea, tea better milk"),
            ("say milk not tea", "ok"), ("say tea not milk", "ok"), ("say tea open milk", "ok"), ("add juice", "ok"),
            ("add tea", "refused"), ("drop wine", "refused"), ("name tea wine", "ok"), ("name tea beer", "refused"),
            ("name wine milk", "refused"), ("name wine wine", "refused"), ("say wine better tea", "refused"),
            ("say tea open beer", "refused"), ("book", "things juice milk wine\nmilk not wine\n"), ("drop milk", "ok"),
            ("book", "things juice wine\n"), ("say juice better wine", "ok"), ("drop juice", "ok"), ("drop wine", "ok"),
            ("book", "things\n")])

    def test_back_and_again(self):
        self.says(Desk(["a", "b"]), [
            ("back", "nothing"), ("again", "nothing"), ("say a better b", "ok"), ("say a not b", "ok"), ("say a open b", "ok"),
            ("add c", "ok"), ("name c d", "ok"), ("drop a", "ok"), ("again", "nothing"), ("back", "drop a"),
            ("back", "name c d"), ("again", "name c d"), ("back", "name c d"), ("back", "add c"), ("back", "say a open b"),
            ("back", "say a not b"), ("book", "things a b\na better b\n"), ("back", "say a better b"), ("back", "nothing"),
            ("again", "say a better b"), ("add a", "refused"), ("again", "say a not b"), ("add x", "ok"), ("again", "nothing"),
            ("back", "add x")])

    def test_questions(self):
        desk = Desk(["tea", "milk", "juice"])
        self.says(desk, [
            ("best", "-; juice milk tea"), ("question", "juice milk"), ("tables", "19"), ("why tea not milk", "open"),
            ("apart tea milk", "none, none"), ("apart tea tea", "0 reached, 0 reached"), ("worths", "step 3\njuice 0\nmilk 0\ntea 0\n"),
            ("say tea better milk", "ok"), ("say juice not tea", "ok"),
            ("sure", "things juice milk tea\njuice not tea\nmilk not tea\ntea better milk\n"),
            ("worths", "step 3\njuice 0\nmilk 0\ntea 4\n"), ("apart tea milk", "1, none"), ("apart milk tea", "none, -1"),
            ("apart juice tea", "none, 1 reached"), ("best", "tea; juice tea"), ("why milk not tea", "tea better milk"),
            ("why milk better tea", "open"), ("why tea not milk", "open"), ("say tea not juice", "ok"),
            ("why juice better milk", "open"), ("why milk not juice", "tea not juice, tea better milk")])

    def test_sure_both_ways(self):
        desk = Desk(["a", "b"])
        self.says(desk, [("say a not b", "ok"), ("say b not a", "ok"), ("question", "none"), ("tables", "1"), ("best", "a b; a b"),
                         ("apart a b", "-1 reached, 1 reached"), ("why a not b", "a not b")])
        self.says(Desk([]), [("best", "-; -"), ("question", "none"), ("tables", "1"), ("worths", "step 1\n"), ("sure", "things\n")])

    def test_many(self):
        desk = Desk(SIX)
        self.says(desk, [("tables", "many"), ("question", "many"), ("best", "-; a b c d e f")])
        self.says(Desk(SIX[:4]), [("tables", "183"), ("question", "a b")])
        self.says(Desk(SIX[:5]), [("tables", "many"), ("question", "many"), ("add z", "ok"), ("add y", "refused")])

    def test_names_that_are_none_of_the_book(self):
        self.says(Desk(["a", "b"]), [
            ("apart a x", "refused"), ("apart x a", "refused"), ("apart x x", "refused"), ("why a better x", "refused"),
            ("why x not a", "refused"), ("why x better y", "refused"), ("say a better x", "refused"), ("drop x", "refused")])

    def test_names_that_are_words(self):
        self.says(Desk(["say", "better"]), [
            ("say say better better", "ok"), ("why better not say", "say better better"), ("name better open", "ok"),
            ("say say open open", "ok"), ("add back", "ok"), ("back", "add back"), ("book", "things open say\n")])

    def test_no_command(self):
        desk = Desk(["a", "b"])
        desk.execute("say a better b")
        desk.execute("add c")
        desk.execute("back")
        bad = ["", " ", "Book", "book ", " book", "book\n", "books", "book book", "sure a", "best best", "question?", "tables 400",
               "back 1", "again again", "say", "say a b", "say a better", "say a better b c", "say a better a", "say a not a",
               "say a open a", "say  a better b", "say a  better b", "say a better b ", " say a better b", "say a better b\n",
               "say a Better b", "say a worse b", "say A better b", "say a better abcdefghi", "say a better b1", "say a\tbetter b",
               "say a better b, b not a", "a better b", "add", "add a b", "add A", "add ", "add  a", "add abcdefghi", "drop",
               "drop a b", "drop 1", "name a", "name a b c", "name a B", "name a ", "apart", "apart a", "apart a b c", "apart a B",
               "apart a  b", "apart A b", "why", "why a b", "why a open b", "why a better a", "why a not a", "why a better",
               "why a better b c", "why A not b", "why a not b\n", "Say a better b", "ok", "refused", "ring", "None", "undo"]
        for line in bad + odd.values():
            self.assertIs(type(caught(desk.execute, line)), NoCommand, repr(line))
        self.assertEqual([desk.execute(line) for line in ("again", "back", "back", "back")],
                         ["add c", "add c", "say a better b", "nothing"])

    def test_lines_that_are_bent(self):
        chance = random.Random(221)
        good = ["say a better b", "say b not a", "say a open b", "add c", "drop c", "name a d", "back", "again", "book", "sure",
                "worths", "apart a b", "why a better b", "why b not a", "best", "question", "tables"]
        parts = ["", " ", "  ", "a", "b", "x", "A", "\n", "1", "better", "not", "say", "back", "-", ","]
        taken = 0
        for _ in range(3000):
            line = chance.choice(good)
            for _ in range(chance.randint(1, 2)):
                at = chance.randint(0, len(line))
                line = line[:at] + chance.choice(parts) + line[at + chance.randint(0, 2):]
            taken += self.is_taken(line)
        self.assertGreater(taken, 50)

    def is_taken(self, line):
        """Tell whether a line is one that the document names, and hold the desk to it."""
        desk = Desk(["a", "b"])
        words = line.split(" ")
        names = [word for word in words if 0 < len(word) < 9 and all(letter in "abcdefghijklmnopqrstuvwxyz" for letter in word)]
        unlike = len(words) == 4 and words[1] != words[3]
        kind = (words[0], len(words))
        known = names == words and (
            line in QUESTIONS + ("back", "again") or kind in (("add", 2), ("drop", 2), ("name", 3), ("apart", 3))
            or kind == ("say", 4) and words[2] in TRUTHS and unlike or kind == ("why", 4) and words[2] in ("better", "not") and unlike)
        if known:
            self.assertIsInstance(desk.execute(line), str)
        else:
            self.assertIs(type(caught(desk.execute, line)), NoCommand, line)
        return known

    def test_two_hundred_deeds(self):
        desk = Desk(["a", "b"])
        for _ in range(200):
            self.assertEqual(desk.execute("say a better b"), "ok")
        # Full ahead of what else would be refused, and of a ring.
        for line in ("say a better b", "add a", "say b better a", "drop a"):
            self.assertEqual(desk.execute(line), "refused")
        self.assertEqual([desk.execute(line) for line in ("back", "say b better a", "drop b", "again", "add c")],
                         ["say a better b", "ring a better b, b better a", "ok", "nothing", "refused"])


class WholeProgramTest(unittest.TestCase):
    """[1]"""

    def test_a_desk_and_a_log_led_by_the_same_deeds(self):
        texts = set()
        for seed in range(24):
            chance = random.Random(seed)
            things = SIX[:seed % 7]
            desk, log = Desk(things), Log(Book(things))
            for _ in range(25):
                line = drawn_line(chance, log.book.things())
                text = desk.execute(line)
                self.assertEqual(text, self.by_log(log, line), line)
                texts.add(text.split(" ")[0])
                for question in chance.sample(asking_lines(log.book.things()), 6) + ["book"]:
                    self.assertEqual(desk.execute(question), expected(log.book, question), question)
        self.assertLessEqual({"ok", "refused", "ring", "nothing", "say", "add"}, texts)

    def by_log(self, log, line):
        """Return what a line has to get, by a Log that is led by the same deeds."""
        try:
            if line in ("back", "again"):
                deed = log.back() if line == "back" else log.again()
                words = {truth: word for word, truth in TRUTHS.items()}
                return f"say {deed[1][0]} {words[deed[2]]} {deed[1][1]}" if deed[0] == "say" else " ".join(deed)
            log.do(deed_of(line))
        except Ring as error:
            x, y, truth = deed_of(line)[1] + (deed_of(line)[2],)
            rest = [answer for answer in log.book if answer[:2] != (x, y)]
            worse = Book(log.book.things(), rest + [(x, y, truth)])
            self.assertEqual(error.ring, ring_of(worse))
            return "ring " + show_walk(error.ring)
        except Refused:
            return "refused"
        except BarelyError:
            return "nothing"
        return "ok"

    def test_texts_are_read_again(self):
        for seed in range(12):
            chance, desk = random.Random(seed + 100), Desk(SIX[:2 + seed % 5])
            for _ in range(30):
                text = desk.execute(drawn_line(chance, read_book(desk.execute("book")).things()))
                if text.startswith("ring "):
                    ring = read_walk(text[5:])
                    self.assertIs(is_ring(Book(sorted({name for one in ring for name in one[:2]}), ring), ring), True)
                book = read_book(desk.execute("book"))
                self.assertIs(read_scale(desk.execute("worths")).fits(book), True)
                self.assertTrue(read_book(desk.execute("sure")) == surely(book))

    def test_questions_change_nothing_and_desks_go_by_themselves(self):
        chance = random.Random(222)
        one, other, alone = Desk(SIX[:4]), Desk(SIX[:4]), Desk(SIX[:4])
        for _ in range(60):
            line = drawn_line(chance, read_book(alone.execute("book")).things())
            text = alone.execute(line)
            for question in asking_lines(read_book(one.execute("book")).things()):
                one.execute(question)
                self.assertRaises(NoCommand, one.execute, question + " ")
            self.assertEqual(one.execute(line), text)
            other.execute(drawn_line(chance, SIX[:4]))
            self.assertEqual(one.execute("book"), alone.execute("book"))

    def test_quick(self):
        desk, chance = Desk(SIX), random.Random(223)
        worst = 0
        for _ in range(120):
            line = chance.choice([drawn_line(chance, SIX), chance.choice(asking_lines(SIX))])
            start = time.process_time()
            desk.execute(line)
            worst = max(worst, time.process_time() - start)
        self.assertLess(worst, 0.5)


if __name__ == "__main__":
    unittest.main()
