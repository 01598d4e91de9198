"""Point 2 and the interface: all names are there, with arguments by place or by name as listed."""

import importlib
import inspect
import unittest

from chancetongue.cases import Case
from chancetongue.watches import Watched

ALWAYS = "('num', 1)"
FUNCTIONS = f"""
shares share_of (upper, *, lower=1)
shares sum_of (one, other)
shares product_of (one, other)
shares quotient_of (one, other)
shares is_less (one, other)
shares share_text (one)
shares read_share (text)
expressions is_name (text)
expressions parts_of (expression)
expressions value_of (expression, known)
expressions names_of (expression)
exprtexts show_expression (expression)
exprtexts read_expression (text)
books statements_of (book)
books is_row (book, row)
booktexts book_text (book)
booktexts read_book (text)
looking known_at (book, n)
looking known_behind (book)
looking look (book)
looking look_ask (book, ask, *, at_row=False)
ways prior_of (book)
ways ways_of_row (book, values, row, *, most=2000)
ways ways_of_all (book, rows, ask, *, conditions=(), at=None, most=2000)
flows flow_of (book, *, asked={ALWAYS})
flows live_at (book, rows)
tables tables_of (book, values, row, *, asked={ALWAYS})
tables share_along (book, values, row, *, asked={ALWAYS})
worths worths_of (book, values, row, *, asked={ALWAYS})
worths cut_at (book, values, row, r, *, asked={ALWAYS})
worths worths_hold (book, values, row, some, *, asked={ALWAYS})
packing spans_of (book, rows)
packing slots_of (book, rows)
packing packed (book, rows)
packing width_of (code)
packing is_packed (book, rows, code)
machine run_code (code, values, row)
answers answer_of (case, ask, *, at=None, given={ALWAYS})
answers spread_of (case, expression, *, at=None, given={ALWAYS})
answers mean_of (case, expression, *, at=None, given={ALWAYS})
answers mixture_of (case, ask, *, at=None)
answers answer_without (case, datum, ask, *, at=None)
engines by_engine (word, book, rows, ask, *, conditions=(), at=None)
splits split_of (case, ask, *, at=None)
splits split_holds (case, ask, some, *, at=None)
cores core_of (case)
cores core_holds (case, some, paper)
"""
CLASSES = {
    "machine Machine (code, values, row)": "turn table share widest",
    "trees Tree (keys)": "put change take nodes product without height __len__",
    "cases Case (book)":
        "book put change take drop set_condition back several remade reckoned rows conditions nodes leaf log is_open __len__",
    "watches Watched (book)": "watch watches news",
    "desk Desk ()": "say",
}
METHODS = f"""
trees Tree put (self, leaf)
trees Tree change (self, n, leaf)
trees Tree take (self, n)
trees Tree without (self, n)
cases Case put (self, row)
cases Case change (self, number, row)
cases Case take (self, number)
cases Case drop (self, number)
cases Case set_condition (self, ask, *, at=None)
cases Case several (self, deeds, *, stay=False)
cases Case leaf (self, number)
watches Watched watch (self, ask, *, at=None, given={ALWAYS})
desk Desk say (self, row)
"""
VALUES = {
    "shares ONE": (1, 1), "shares NONE": (0, 1), "ways MOST": 2000, "flows ALWAYS": ("num", 1),
}


def module_of(word):
    return importlib.import_module("chancetongue." + word)


class Interface(unittest.TestCase):
    def test_functions(self):
        for row in FUNCTIONS.strip().split("\n"):
            module, word, told = row.split(" ", 2)
            function = getattr(module_of(module), word)
            self.assertTrue(inspect.isfunction(function), row)
            self.assertEqual(function.__module__, "chancetongue." + module)
            self.assertEqual(str(inspect.signature(function)), told, row)

    def test_classes(self):
        for head, words in CLASSES.items():
            module, word, told = head.split(" ", 2)
            made = getattr(module_of(module), word)
            self.assertEqual(str(inspect.signature(made)), told, head)
            for method in words.split():
                self.assertTrue(inspect.isfunction(vars(made)[method]), method)
        self.assertTrue(issubclass(Watched, Case))

    def test_methods(self):
        told = {tuple(row.split(" ", 3)[:3]): row.split(" ", 3)[3] for row in METHODS.strip().split("\n")}
        for head, words in CLASSES.items():
            module, word = head.split(" ")[:2]
            for method in words.split():
                found = str(inspect.signature(vars(getattr(module_of(module), word))[method]))
                self.assertEqual(found, told.get((module, word, method), "(self)"), method)

    def test_constants(self):
        for head, value in VALUES.items():
            module, word = head.split(" ")
            found = getattr(module_of(module), word)
            self.assertEqual((found, type(found)), (value, type(value)))


if __name__ == "__main__":
    unittest.main()
