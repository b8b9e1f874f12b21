import unittest

import sample
from bothhands.books import Book
from bothhands.forms import long_form, short_form
from bothhands.wholes import kinds_of, wholes_of
from sample import GREAT, M1, M2, M3, MG, N1, N2


def by_the_words(book, text):
    told = []
    for whole in wholes_of(book, long_form(book, text)):
        if book.kind(whole[0]) == "mark":
            told += whole
            continue
        base, kept = whole[0], []
        for mark in whole[1:]:
            if book.joined(base, mark) is not None and book.rank(mark) not in [book.rank(other) for other in kept]:
                base = book.joined(base, mark)
            else:
                kept.append(mark)
        told += [base] + kept
    return told


class ShortForm(unittest.TestCase):
    def setUp(self):
        self.book = Book(sample.form_signs(), sample.mates(), sample.form_joins())

    def told(self, text, wanted):
        self.assertEqual(short_form(self.book, text), wanted)

    def test_the_empty_text(self):
        self.told([], [])

    def test_a_mark_that_is_taken_in(self):
        self.told([10, M1], [11])
        self.told([20, M2, 10, M1, 999], [21, 11, 999])

    def test_a_mark_that_is_kept(self):
        self.told([10, N1], [10, N1])
        self.told([999, M1, M2], [999, M1, M2])

    def test_a_later_mark_of_a_higher_rank_is_taken_in_past_a_kept_one(self):
        self.told([10, N1, M2], [13, N1])
        self.told([10, N1, N2, M3], [15, N1, N2])

    def test_a_mark_is_not_taken_in_past_a_kept_one_of_the_same_rank(self):
        self.told([10, N1, M1], [10, N1, M1])
        self.told([10, M1, N2, M2], [11, N2, M2])
        self.told([10, N1, M1, N2, M2, M3], [15, N1, M1, N2, M2])

    def test_a_mark_is_taken_in_ahead_of_one_of_the_same_rank(self):
        self.told([10, M1, N1], [11, N1])
        self.told([10, M1, M1], [11, M1])
        self.told([10, M2, N2, M2], [13, N2, M2])

    def test_a_base_that_grows_by_several_marks(self):
        self.told([10, M1, M2], [12])
        self.told([10, M2, M1], [12])
        self.told([10, M2, M2], [14])
        self.told([10, M1, N1, M2], [12, N1])
        self.told([10, M2, M2, M2], [14, M2])

    def test_a_base_that_grows_by_seven_marks(self):
        marks = [(500 + k, "mark", k // 2 + 1) for k in range(7)]
        book = Book(marks, [], [(601 + k, 600 + k, 500 + k) for k in range(7)])
        self.assertEqual(short_form(book, [600, 502, 504, 500, 503, 506, 501, 505]), [607])
        self.assertEqual(short_form(book, [607, 506]), [607, 506])
        self.assertEqual(short_form(book, [603, 506, 503]), [604, 506])
        self.assertEqual(short_form(book, [603, 505, 504, 503]), [604, 505, 504])

    def test_what_the_base_is_by_then_counts(self):
        # 10 and M3 are joined, but 11 and M3 are not.
        self.told([10, M1, M3], [11, M3])
        self.told([15, M1], [11, M3])

    def test_wholes_that_are_no_short_form(self):
        self.told([22], [21, M1])
        self.told([203], [201, M1, M2])
        self.told([14, M1], [12, M2])

    def test_marks_behind_a_whole(self):
        self.told([13, M1], [12])
        self.told([13, N1], [13, N1])

    def test_a_whole_sign_without_a_base(self):
        self.told([M2, M1], [M1, M2])
        self.told([N1, M1, 10, M1], [N1, M1, 11])

    def test_marks_of_another_whole_sign_do_not_count(self):
        self.told([10, N1, 10, M1], [10, N1, 11])
        self.told([N1, 10, M1], [N1, 11])

    def test_kinds_of_which_nothing_is_joined(self):
        self.told([50, M2, M1, 60, M1, 52, M1], [50, M1, M2, 60, M1, 52, M1])

    def test_signs_and_ranks_of_thirty_figures(self):
        self.told([GREAT - 1, MG, M1], [GREAT, M1])
        self.told([30, MG], [31])

    def test_long_texts(self):
        self.told([10, M2, M1] * 100, [12] * 100)
        self.told([10] + [M2, M1] * 149, [12] + [M1] * 148 + [M2] * 148)

    def test_many_texts_by_the_words_of_the_document(self):
        for text in sample.mixed_texts(300, 30, 3) + sample.all_texts([10, 13, 22, M1, N1, M2, N2], 4):
            self.told(text, by_the_words(self.book, text))

    def test_forms_of_forms(self):
        for text in sample.mixed_texts(300, 40, 4) + sample.all_texts([11, 14, 22, M1, N1, M2], 3):
            long_one, short_one = long_form(self.book, text), short_form(self.book, text)
            self.told(short_one, short_one)
            self.told(long_one, short_one)
            self.assertEqual(long_form(self.book, short_one), long_one)

    def test_as_many_whole_signs_of_the_same_kinds_in_all_three(self):
        for text in sample.mixed_texts(300, 40, 5):
            kinds = kinds_of(self.book, text)
            self.assertEqual(kinds_of(self.book, long_form(self.book, text)), kinds)
            self.assertEqual(kinds_of(self.book, short_form(self.book, text)), kinds)


if __name__ == "__main__":
    unittest.main()
