import unittest

import sample
from bothhands.books import Book
from bothhands.forms import long_form
from bothhands.wholes import kinds_of, wholes_of
from sample import GREAT, M1, M2, M3, MG, N1, N2


def by_the_words(book, text):
    signs = list(text)
    while any(book.parts(sign) for sign in signs):
        k = [book.parts(sign) is not None for sign in signs].index(True)
        signs[k:k + 1] = book.parts(signs[k])
    told = []
    for whole in wholes_of(book, signs):
        bases = [sign for sign in whole if book.kind(sign) != "mark"]
        marks = [sign for sign in whole if book.kind(sign) == "mark"]
        ranks = sorted({book.rank(mark) for mark in marks})
        told += bases + [mark for rank in ranks for mark in marks if book.rank(mark) == rank]
    return told


class LongForm(unittest.TestCase):
    def setUp(self):
        self.book = Book(sample.form_signs(), sample.mates(), sample.form_joins())

    def told(self, text, wanted):
        self.assertEqual(long_form(self.book, text), wanted)

    def test_the_empty_text(self):
        self.told([], [])

    def test_bases_alone(self):
        self.told([10, 20, 999, 60], [10, 20, 999, 60])

    def test_a_whole_of_one_going(self):
        self.told([11], [10, M1])
        self.told([20, 11, 30], [20, 10, M1, 30])

    def test_a_whole_of_several_goings(self):
        self.told([12], [10, M1, M2])
        self.told([999, 12, 14, 30], [999, 10, M1, M2, 10, M2, M2, 30])

    def test_a_whole_of_seven_goings(self):
        wanted = [200, M1, N1, M1, M2, N2, M3, MG]
        self.told([207], wanted)
        self.told([10, 207, 207, 20], [10] + wanted + wanted + [20])

    def test_a_whole_whose_marks_come_in_the_wrong_order(self):
        self.told([22], [20, M1, M2])

    def test_marks_of_unlike_ranks_in_the_wrong_order(self):
        self.told([999, M3, M2, M1], [999, M1, M2, M3])
        self.told([999, MG, M1, 10, M2, M1], [999, M1, MG, 10, M1, M2])

    def test_marks_of_alike_rank_keep_their_order(self):
        self.told([999, N1, M1, N1], [999, N1, M1, N1])
        self.told([999, M1, N1], [999, M1, N1])
        self.told([999, N2, N1, M2, M1, N2], [999, N1, M1, N2, M2, N2])

    def test_marks_from_a_whole_with_marks_behind_it(self):
        self.told([11, N1], [10, M1, N1])
        self.told([13, M1], [10, M1, M2])
        self.told([13, N2, N1, M2], [10, N1, M2, N2, M2])
        self.told([203, M1, M3], [200, M1, M1, M2, M3, M3])

    def test_marks_stay_with_their_whole_sign(self):
        self.told([10, M3, 20, M1], [10, M3, 20, M1])

    def test_a_text_that_begins_with_marks(self):
        self.told([M3, M1], [M1, M3])
        self.told([N1, M2, M1, 11], [N1, M1, M2, 10, M1])

    def test_kinds_of_which_nothing_is_joined_bear_marks_too(self):
        self.told([50, M2, M1, 60, M3, M2, 52, M1], [50, M1, M2, 60, M2, M3, 52, M1])

    def test_signs_and_ranks_of_thirty_figures(self):
        self.told([GREAT, M1], [GREAT - 1, M1, MG])
        marks = [(GREAT - 5, "mark", GREAT), (GREAT - 6, "mark", GREAT - 1)]
        book = Book(marks, [], [(GREAT, GREAT - 2, GREAT - 5)])
        self.assertEqual(long_form(book, [GREAT, GREAT - 6]), [GREAT - 2, GREAT - 6, GREAT - 5])

    def test_a_book_that_tells_nothing(self):
        self.assertEqual(long_form(Book([], [], []), [11, 3, 91]), [11, 3, 91])

    def test_the_longest_texts(self):
        self.told([207] * 200, [200, M1, N1, M1, M2, N2, M3, MG] * 200)
        self.told([10] + [M2, M1] * 100, [10] + [M1] * 100 + [M2] * 100)

    def test_the_long_form_of_a_long_form_is_itself(self):
        for text in sample.mixed_texts(300, 30, 1) + [[207] * 200]:
            once = long_form(self.book, text)
            self.assertEqual(long_form(self.book, once), once)

    def test_many_texts_by_the_words_of_the_document(self):
        for text in sample.mixed_texts(300, 30, 2) + sample.all_texts([12, 22, M1, N1, M2], 4):
            told = long_form(self.book, text)
            self.assertEqual(told, by_the_words(self.book, text))
            self.assertEqual(kinds_of(self.book, told), kinds_of(self.book, text))


if __name__ == "__main__":
    unittest.main()
