import inspect
import unittest

from bothhands.books import Book
from bothhands.forms import long_form, short_form
from bothhands.levels import levels_of
from bothhands.nests import nests_of, own_base
from bothhands.orders import order_of
from bothhands.rows import cut_rows, row_levels, row_shown
from bothhands.seams import long_together, seam_of, together
from bothhands.steps import step_done, way_to
from bothhands.wholes import kinds_of, wholes_of


class Interface(unittest.TestCase):
    def test_the_names_of_arguments(self):
        told = [
            (Book, ["signs", "mates", "joins"]), (Book.kind, ["self", "sign"]), (Book.rank, ["self", "sign"]),
            (Book.mate, ["self", "sign"]), (Book.parts, ["self", "sign"]), (Book.joined, ["self", "base", "mark"]),
            (wholes_of, ["book", "text"]), (kinds_of, ["book", "text"]),
            (long_form, ["book", "text"]), (short_form, ["book", "text"]),
            (step_done, ["book", "text", "step"]), (way_to, ["book", "one", "other"]),
            (seam_of, ["book", "one", "other"]), (together, ["book", "one", "other"]),
            (long_together, ["book", "one", "other"]),
            (own_base, ["book", "text"]), (nests_of, ["book", "text", "base", "most"]),
            (levels_of, ["book", "text", "base", "most"]), (order_of, ["levels"]),
            (cut_rows, ["book", "text", "width"]), (row_levels, ["book", "text", "row", "base", "most"]),
            (row_shown, ["book", "text", "row", "base", "most"]),
        ]
        for function, names in told:
            with self.subTest(function=function):
                self.assertEqual(list(inspect.signature(function).parameters), names)

    def test_the_kinds_of_what_is_told(self):
        book = Book(signs=[(5, "mark", 1)], mates=[(1, 2)], joins=[(3, 4, 5)])
        self.assertIs(type(book.kind(sign=5)), str)
        self.assertIs(type(book.rank(sign=5)), int)
        self.assertIs(type(book.mate(sign=1)), int)
        self.assertIs(type(book.parts(sign=3)), tuple)
        self.assertIs(type(book.joined(base=4, mark=5)), int)
        wholes = wholes_of(book=book, text=[1, 5])
        self.assertEqual((type(wholes), type(wholes[0])), (list, list))
        self.assertIs(type(kinds_of(book=book, text=[1, 5])), list)

    def test_what_may_be_left_out(self):
        told = inspect.signature(nests_of).parameters
        self.assertEqual(told["most"].default, 20)
        self.assertIs(told["base"].default, inspect.Parameter.empty)
        for function in (levels_of, row_levels, row_shown):
            told = inspect.signature(function).parameters
            self.assertEqual((told["base"].default, told["most"].default), (None, 20))

    def test_the_kinds_of_what_forms_steps_seams_and_nests_tell(self):
        book = Book(signs=[(5, "mark", 1), (6, "forein", 0)], mates=[], joins=[(3, 4, 5)])
        self.assertEqual(long_form(book=book, text=[3]), [4, 5])
        self.assertEqual(short_form(book=book, text=[4, 5]), [3])
        self.assertEqual(step_done(book=book, text=[3], step=("open", 0)), [4, 5])
        self.assertEqual(way_to(book=book, one=[3], other=[4, 5]), [("open", 0)])
        self.assertEqual(seam_of(book=book, one=[4], other=[5]), (0, 1))
        self.assertEqual(together(book=book, one=[4], other=[5]), [3])
        self.assertEqual(long_together(book=book, one=[4], other=[5]), [4, 5])
        self.assertEqual(own_base(book=book, text=[6]), 0)
        self.assertEqual(nests_of(book=book, text=[6], base=0, most=2), [(0, 1, 2)])

    def test_the_kinds_of_what_levels_orders_and_rows_tell(self):
        book = Book(signs=[(1, "back", 0)], mates=[(2, 3)], joins=[])
        self.assertEqual(levels_of(book=book, text=[1, 2], base=0, most=0), [1, 0])
        self.assertEqual(order_of(levels=[1, 1]), [1, 0])
        self.assertEqual(cut_rows(book=book, text=[1, 2], width=1), [(0, 1), (1, 2)])
        self.assertEqual(row_levels(book=book, text=[1, 2], row=(0, 2), base=1, most=0), [1, 1])
        self.assertEqual(row_shown(book=book, text=[1, 2], row=(0, 2), base=1, most=0), [[3], [1]])


if __name__ == "__main__":
    unittest.main()
