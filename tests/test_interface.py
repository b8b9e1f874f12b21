import inspect
import unittest

from bothhands.books import Book
from bothhands.forms import long_form, short_form
from bothhands.hands import passed, place_of, sight_of
from bothhands.levels import levels_of
from bothhands.looks import compared, found_at, part_of, replaced, same_text
from bothhands.nests import nests_of, own_base
from bothhands.orders import order_of
from bothhands.pages import Page
from bothhands.pieces import seen_pieces, told_pieces
from bothhands.rows import cut_rows, row_levels, row_shown
from bothhands.seams import long_together, seam_of, together
from bothhands.steps import step_done, way_to
from bothhands.wholes import kinds_of, wholes_of


class Interface(unittest.TestCase):
    def test_the_names_of_arguments(self):
        told = [
            (Book, ["signs", "mates", "joins"]), (Book.kind, ["self", "sign"]), (Book.rank, ["self", "sign"]),
            (Book.mate, ["self", "sign"]), (Book.parts, ["self", "sign"]), (Book.joined, ["self", "base", "mark"]),
            (wholes_of, ["book", "text"]), (kinds_of, ["book", "text"]),
            (long_form, ["book", "text"]), (short_form, ["book", "text"]),
            (step_done, ["book", "text", "step"]), (way_to, ["book", "one", "other"]),
            (seam_of, ["book", "one", "other"]), (together, ["book", "one", "other"]),
            (long_together, ["book", "one", "other"]),
            (own_base, ["book", "text"]), (nests_of, ["book", "text", "base", "most"]),
            (levels_of, ["book", "text", "base", "most"]), (order_of, ["levels"]),
            (cut_rows, ["book", "text", "width"]), (row_levels, ["book", "text", "row", "base", "most"]),
            (row_shown, ["book", "text", "row", "base", "most"]),
            (sight_of, ["levels", "base", "place", "side"]), (place_of, ["levels", "base", "gap", "hand"]),
            (passed, ["levels", "base", "place", "side", "step"]),
            (seen_pieces, ["levels", "start", "end"]), (told_pieces, ["levels", "left", "right"]),
            (same_text, ["book", "one", "other"]), (found_at, ["book", "text", "what"]),
            (replaced, ["book", "text", "what", "by"]), (compared, ["book", "one", "other"]),
            (part_of, ["book", "text", "start", "end"]),
            (Page, ["book", "width", "base", "most"]), (Page.text, ["self"]), (Page.hand, ["self"]),
            (Page.put, ["self", "signs"]), (Page.take, ["self"]), (Page.go, ["self", "step"]),
            (Page.look, ["self", "step"]), (Page.rows, ["self"]), (Page.shown, ["self"]), (Page.sight, ["self"]),
            (Page.point, ["self", "row", "gap", "hand"]), (Page.stand, ["self", "place", "side"]),
            (Page.marked, ["self", "start", "end"]),
        ]
        for function, names in told:
            with self.subTest(function=function):
                self.assertEqual(list(inspect.signature(function).parameters), names)

    def test_the_kinds_of_what_is_told(self):
        book = Book(signs=[(5, "mark", 1)], mates=[(1, 2)], joins=[(3, 4, 5)])
        self.assertIs(type(book.kind(sign=5)), str)
        self.assertIs(type(book.rank(sign=5)), int)
        self.assertIs(type(book.mate(sign=1)), int)
        self.assertIs(type(book.parts(sign=3)), tuple)
        self.assertIs(type(book.joined(base=4, mark=5)), int)
        wholes = wholes_of(book=book, text=[1, 5])
        self.assertEqual((type(wholes), type(wholes[0])), (list, list))
        self.assertIs(type(kinds_of(book=book, text=[1, 5])), list)

    def test_what_may_be_left_out(self):
        told = inspect.signature(nests_of).parameters
        self.assertEqual(told["most"].default, 20)
        self.assertIs(told["base"].default, inspect.Parameter.empty)
        for function in (levels_of, row_levels, row_shown, Page):
            told = inspect.signature(function).parameters
            self.assertEqual((told["base"].default, told["most"].default), (None, 20))

    def test_the_kinds_of_what_forms_steps_seams_and_nests_tell(self):
        book = Book(signs=[(5, "mark", 1), (6, "forein", 0)], mates=[], joins=[(3, 4, 5)])
        self.assertEqual(long_form(book=book, text=[3]), [4, 5])
        self.assertEqual(short_form(book=book, text=[4, 5]), [3])
        self.assertEqual(step_done(book=book, text=[3], step=("open", 0)), [4, 5])
        self.assertEqual(way_to(book=book, one=[3], other=[4, 5]), [("open", 0)])
        self.assertEqual(seam_of(book=book, one=[4], other=[5]), (0, 1))
        self.assertEqual(together(book=book, one=[4], other=[5]), [3])
        self.assertEqual(long_together(book=book, one=[4], other=[5]), [4, 5])
        self.assertEqual(own_base(book=book, text=[6]), 0)
        self.assertEqual(nests_of(book=book, text=[6], base=0, most=2), [(0, 1, 2)])

    def test_the_kinds_of_what_levels_orders_and_rows_tell(self):
        book = Book(signs=[(1, "back", 0)], mates=[(2, 3)], joins=[])
        self.assertEqual(levels_of(book=book, text=[1, 2], base=0, most=0), [1, 0])
        self.assertEqual(order_of(levels=[1, 1]), [1, 0])
        self.assertEqual(cut_rows(book=book, text=[1, 2], width=1), [(0, 1), (1, 2)])
        self.assertEqual(row_levels(book=book, text=[1, 2], row=(0, 2), base=1, most=0), [1, 1])
        self.assertEqual(row_shown(book=book, text=[1, 2], row=(0, 2), base=1, most=0), [[3], [1]])

    def test_the_kinds_of_what_hands_pieces_and_looks_tell(self):
        book = Book(signs=[(5, "mark", 1)], mates=[], joins=[(3, 4, 5)])
        self.assertEqual(sight_of(levels=[1], base=0, place=0, side=1), (1, 0))
        self.assertEqual(place_of(levels=[1], base=0, gap=1, hand=0), (0, 1))
        self.assertEqual(passed(levels=[1], base=0, place=0, side=1, step=-1), (1, 0))
        self.assertEqual(seen_pieces(levels=[1, 1], start=0, end=1), [(1, 2)])
        self.assertEqual(told_pieces(levels=[1, 1], left=0, right=1), [(1, 2)])
        self.assertIs(same_text(book=book, one=[3], other=[4, 5]), True)
        self.assertEqual(found_at(book=book, text=[3], what=[4, 5]), [0])
        self.assertEqual(replaced(book=book, text=[3], what=[4, 5], by=[7]), [7])
        self.assertEqual(compared(book=book, one=[3], other=[4]), 1)
        self.assertEqual(part_of(book=book, text=[3, 5, 4], start=0, end=1), [3, 5])

    def test_the_kinds_of_what_pages_tell(self):
        book = Book(signs=[(1, "back", 0)], mates=[], joins=[])
        page = Page(book=book, width=2, base=0, most=3)
        self.assertEqual(page.put(signs=[1, 1, 7]), (3, 0))
        self.assertEqual((page.text(), page.hand(), page.take()), ([1, 1, 7], (3, 0), [7]))
        self.assertIs(page.go(step=-1), True)
        self.assertIs(page.look(step=-1), True)
        self.assertEqual((page.rows(), page.shown(), page.sight()), ([(0, 2)], [[[1], [1]]], (0, 0, 1)))
        self.assertEqual(page.point(row=0, gap=2, hand=0), (0, 1))
        self.assertEqual(page.stand(place=1, side=0), (1, 0))
        self.assertEqual(page.marked(start=0, end=1), [(0, 1, 2)])


if __name__ == "__main__":
    unittest.main()
