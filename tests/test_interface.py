"""The interface: each name stands in its file, each method in its class itself."""

import importlib
import inspect
import unittest

# Of each file the functions, and the classes with their methods.
FILES = {
    "kinds": ("is_integer(thing)", "is_name(thing)", "is_pair(thing)", "is_answer(thing)", "pair_of(answer)",
              "contrary(answer)", "mirrored(answer)", "ends_of(answer)"),
    "books": ("Book(things, answers=())",),
    "walks": ("is_walk(book, thing)", "weight_of(walk)", "things_through(walk)"),
    "rings": ("ring_of(book)", "is_ring(book, thing)", "is_possible(book)"),
    "heaviest": ("heaviest(book, x, y)", "heaviest_walk(book, x, y)"),
    "scales": ("Scale(worths, step)", "plainest(book)", "moments(one, other)"),
    "ends": ("apart(book, x, y)", "is_sure(book, answer)", "is_why(book, answer, thing)", "why(book, answer)",
             "surely(book)", "open_pairs(book)", "follow(book, answer)"),
    "best": ("best_of(scale)", "surely_best(book)", "possibly_best(book)", "best_sets(book)"),
    "tables": ("patterns_of(things, betters)", "Table(things, betters)", "table_of(scale)", "only_table(book)"),
    "orders": ("as_good(table, x, y)", "ranks_of(table)", "levels_of(table)", "longest_row(table)"),
    "walls": ("walls_of(book, table)", "neighbours(book, table)", "turns_alone(book, table, pair)"),
    "pins": ("pins_of(book, table)", "pin_why(book, table, answer)", "pins_down(book, table, answers)",
             "other_table(book, table, answers)"),
    "ways": ("way_between(book, one, other)", "first_turns(book, one, other)", "is_way(book, one, other, thing)",
             "count_ways(book, one, other)"),
    "spaces": ("Space(book, *, most=400)",),
    "questions": ("best_question(book, *, most=400)", "fewest_questions(book, *, most=20)",
                  "asking(book, *, most=20)", "is_asking(book, thing)"),
    "wrong": ("fewest_wrong(book)", "left_outs(book)", "surely_wrong(book)", "possibly_wrong(book)",
              "tree_for(book, many)", "is_tree(book, many, thing)"),
    "judges": ("Judges(one, other)",),
    "stretches": ("stretch_ring(book)", "is_stretch_ring(book, thing)", "fit_stretches(book, thing)",
                  "plain_stretches(book)", "stretch_surely(book)", "walls_of_stretches(book, betters)",
                  "pins_of_stretches(book, betters)", "count_stretches(book, *, most=400)"),
    "menus": ("is_menu(thing)", "fit_menus(things, menus)", "is_menu_tree(things, menus, thing)",
              "choose(scale, things)", "menu_answers(menu, leader)", "leaders_of(things, menus)",
              "menus_surely(things, menus)", "menu_tree(things, menus)"),
    "notation": ("show_answer(answer)", "show_walk(walk)", "show_book(book)", "show_table(table)", "show_scale(scale)",
                 "show_end(end)"),
    "readers": ("read_answer(text)", "read_walk(text)", "read_book(text)", "read_table(text)", "read_scale(text)"),
    "logs": ("Log(book)",),
    "desk": ("Desk(things)",),
}

METHODS = {
    "books.Book": (
        "__eq__", "__or__", "__and__", "__sub__", "__invert__", "__len__", "__contains__", "__iter__", "__getitem__",
        "things(self)", "answers(self)", "untold(self)", "put(self, answer)", "out(self, answer)",
        "only(self, things)", "renamed(self, names)", "within(self, other)"),
    "scales.Scale": (
        "__eq__", "__add__", "__radd__", "__mul__", "__rmul__", "__neg__", "__getitem__", "step", "things(self)",
        "worths(self)", "is_better(self, x, y)", "fits(self, book)", "full_book(self)"),
    "tables.Table": (
        "__eq__", "__invert__", "__xor__", "__len__", "__iter__", "__getitem__", "things(self)", "betters(self)",
        "full_book(self)", "fits(self, book)", "within(self, other)", "turned(self, pair)"),
    "spaces.Space": (
        "__len__", "__contains__", "__iter__", "__getitem__", "book", "listed(self)", "between(self, one, other)",
        "number(self, table)", "links(self)", "farthest(self)", "counts(self, pair)"),
    "judges.Judges": (
        "limits(self)", "rounds(self)", "is_sure(self, side, answer)", "surely(self, side)", "round_at(self, a, b)",
        "is_round_at(self, a, b, thing)", "scales_at(self, a, b)"),
    "logs.Log": (
        "__eq__", "__len__", "__getitem__", "__setitem__", "MOST", "book", "first", "do(self, deed)", "deeds(self)",
        "back(self)", "again(self)", "past(self, many)", "copied(self)", "trial(self, act)"),
    "desk.Desk": ("execute(self, line)",),
}


class InterfaceTest(unittest.TestCase):

    def test_functions_and_classes(self):
        for file, rows in FILES.items():
            module = importlib.import_module("barelybetter." + file)
            for row in rows:
                one = getattr(module, row.partition("(")[0])
                self.assertEqual(one.__module__, module.__name__)
                self.assertEqual(one.__name__ + str(inspect.signature(one)), row)

    def test_methods(self):
        for place, rows in METHODS.items():
            file, _, name = place.partition(".")
            own = vars(getattr(importlib.import_module("barelybetter." + file), name))
            for row in rows:
                word, _, rest = row.partition("(")
                self.assertIn(word, own)
                if rest:
                    self.assertEqual(word + str(inspect.signature(own[word])), row)


if __name__ == "__main__":
    unittest.main()
