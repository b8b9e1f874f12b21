import random
import unittest

import sample
from bothhands.books import Book
from bothhands.errors import NoWidth
from bothhands.forms import long_form, short_form
from bothhands.rows import cut_rows
from bothhands.wholes import kinds_of
from odd_things import NO_SIGNS
from refusing import Refusing
from sample import BLANK, FORE, GREAT, spelled


def rows_by_the_words(kinds, width):
    if not kinds:
        return [(0, 0)]
    rows, start = [], 0
    while start < len(kinds):
        left = kinds[start:]
        if len(left) > width:
            left = left[:width]
            while "blank" in left and left[-1] != "blank":
                left.pop()
        rows.append((start, start + len(left)))
        start += len(left)
    return rows


class CutRows(unittest.TestCase):
    def setUp(self):
        self.book = Book(sample.signs(), sample.mates(), sample.joins())

    def told(self, letters, width, wanted):
        told = cut_rows(self.book, spelled(letters), width)
        self.assertEqual(told, wanted, (letters, width))
        self.assertEqual({type(row) for row in told}, {tuple})

    def test_without_signs(self):
        for width in (1, 2, 200, GREAT):
            self.told("", width, [(0, 0)])

    def test_a_width_of_1(self):
        self.told("F", 1, [(0, 1)])
        self.told("F_B", 1, [(0, 1), (1, 2), (2, 3)])
        self.told("__", 1, [(0, 1), (1, 2)])

    def test_just_as_many_as_are_left(self):
        self.told("FBFB", 4, [(0, 4)])
        self.told("F_FB", 4, [(0, 4)])
        self.told("FBFB", 2, [(0, 2), (2, 4)])
        self.told("FB_B", 2, [(0, 2), (2, 4)])

    def test_greater_widths(self):
        for width in (5, 6, 200, 10 ** 29, GREAT):
            self.told("F_FB", width, [(0, 4)])

    def test_without_blanks(self):
        self.told("FBNpo", 2, [(0, 2), (2, 4), (4, 5)])

    def test_a_blank_at_the_place_of_the_width(self):
        self.told("FF_FFF", 3, [(0, 3), (3, 6)])

    def test_a_blank_ahead_of_it(self):
        self.told("F_FFFF", 3, [(0, 2), (2, 5), (5, 6)])
        self.told("_FFFF", 3, [(0, 1), (1, 4), (4, 5)])

    def test_a_blank_right_behind_it(self):
        self.told("FFF_FF", 3, [(0, 3), (3, 6)])
        self.told("FFF_FFF", 3, [(0, 3), (3, 4), (4, 7)])

    def test_the_last_of_several_blanks(self):
        self.told("F_F_FF", 5, [(0, 4), (4, 6)])
        self.told("F__FFF", 4, [(0, 3), (3, 6)])
        self.told("____F", 3, [(0, 3), (3, 5)])

    def test_a_blank_where_all_that_are_left_have_room(self):
        self.told("FFF_FF_", 4, [(0, 4), (4, 7)])
        self.told("F_FF", 4, [(0, 4)])

    def test_whole_signs_are_counted(self):
        self.told("F'''B'F", 2, [(0, 2), (2, 3)])
        self.told("''F_'F'F'", 3, [(0, 3), (3, 5)])
        self.told("'", 1, [(0, 1)])

    def test_a_blank_that_is_a_whole(self):
        self.assertEqual(cut_rows(self.book, [FORE, 1, FORE, FORE, FORE], 3), [(0, 2), (2, 5)])

    def test_all_small_texts_by_the_words_of_the_document(self):
        for text in sample.all_texts([FORE, BLANK], 8):
            for width in range(1, 10):
                self.assertEqual(cut_rows(self.book, text, width), rows_by_the_words(kinds_of(self.book, text), width))

    def test_two_hundred_signs(self):
        chosen = random.Random(34)
        for letters in ("FBNp_", "FBNFBNFBNFBN_", "_", "F"):
            text = spelled(chosen.choices(letters, k=200))
            for width in range(1, 203):
                rows = cut_rows(self.book, text, width)
                self.assertEqual(rows, rows_by_the_words(kinds_of(self.book, text), width))
                self.assertEqual([row[0] for row in rows] + [200], [0] + [row[1] for row in rows])

    def test_a_text_and_both_its_forms_have_the_same_rows(self):
        book = Book(sample.form_signs(), sample.mates(), sample.form_joins())
        for text in sample.mixed_texts(200, 30, 35):
            for width in (1, 2, 3, 7, 40):
                wanted = cut_rows(book, text, width)
                self.assertEqual(cut_rows(book, long_form(book, text), width), wanted)
                self.assertEqual(cut_rows(book, short_form(book, text), width), wanted)


class WrongWidths(Refusing):
    def setUp(self):
        self.book = Book(sample.signs(), sample.mates(), sample.joins())

    def test_whatever_is_no_width(self):
        for k, thing in enumerate(NO_SIGNS + [0, -2, [3], (3,), "3", {3: 3}]):
            for letters in ("", "F", "F_B"):
                with self.subTest(k=k):
                    self.refuses(NoWidth, cut_rows, self.book, spelled(letters), thing)

    def test_the_text_stays(self):
        text = [FORE, BLANK]
        self.refuses(NoWidth, cut_rows, self.book, text, None)
        self.assertEqual(text, [FORE, BLANK])


if __name__ == "__main__":
    unittest.main()
