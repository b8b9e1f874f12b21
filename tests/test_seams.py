import random
import unittest

import sample
from bothhands.books import Book
from bothhands.forms import long_form, short_form
from bothhands.seams import long_together, seam_of, together
from sample import GREAT, M1, M2, M3, MG, N1


class Seams(unittest.TestCase):
    def setUp(self):
        self.book = Book(sample.form_signs(), sample.mates(), sample.form_joins())

    def seam_by_the_words(self, one, other):
        p, q = len(one), 0
        while p > 0 and (p == len(one) or one[p] in sample.RANKS):
            p -= 1
        while q < len(other) and other[q] in sample.RANKS:
            q += 1
        return p, q

    def put(self, function, form, one, other):
        # All that 3 and 12 say of two texts that have this form.
        told = function(self.book, one, other)
        p, q = seam_of(self.book, one, other)
        self.assertEqual((p, q), self.seam_by_the_words(one, other))
        self.assertEqual(told, form(self.book, one + other))
        self.assertEqual(told, one[:p] + form(self.book, one[p:] + other[:q]) + other[q:])

    def put_both(self, one, other):
        self.put(together, short_form, short_form(self.book, one), short_form(self.book, other))
        self.put(long_together, long_form, long_form(self.book, one), long_form(self.book, other))


class SeamOf(Seams):
    def told(self, one, other, wanted):
        told = seam_of(self.book, one, other)
        self.assertEqual(told, wanted)
        self.assertIs(type(told), tuple)

    def test_bases_in_both(self):
        self.told([10, 20], [10, 20], (1, 0))
        self.told([10, M1, 20, M1, M2], [M1, 10, M1, 20], (2, 1))
        self.told([10, M1, M1], [M2, M1, M3, 30], (0, 3))

    def test_texts_without_a_base(self):
        self.told([M1, M2], [10], (0, 0))
        self.told([M1, M2], [M3, 10], (0, 1))
        self.told([10, 20], [M1, M2, M3], (1, 3))
        self.told([M1, M2], [M3], (0, 1))

    def test_empty_texts(self):
        self.told([], [], (0, 0))
        self.told([], [10], (0, 0))
        self.told([], [M1, M2], (0, 2))
        self.told([10, 20, M1], [], (1, 0))
        self.told([M1], [], (0, 0))

    def test_each_kind_but_marks_is_a_base(self):
        for sign in (10, 20, 30, 0, 50, 51, 52, 60, 61, 999, GREAT):
            self.told([10, sign, M1], [M1, sign, 10], (1, 1))

    def test_texts_in_no_form(self):
        self.told([12, M3, M1], [M3, M1, 12], (0, 2))


class Together(Seams):
    def test_nothing_meets(self):
        self.assertEqual(together(self.book, [11, 20], [30, 11]), [11, 20, 30, 11])

    def test_a_mark_is_taken_in_at_the_seam(self):
        self.assertEqual(together(self.book, [20, 10], [M1, 20]), [20, 11, 20])

    def test_a_mark_is_let_go_at_the_seam(self):
        # 15 has M3 in it; with M1 the base grows another way.
        self.assertEqual(together(self.book, [20, 15], [M1, 20]), [20, 11, M3, 20])

    def test_marks_are_sorted_at_the_seam(self):
        self.assertEqual(together(self.book, [999, M2], [M1, M3]), [999, M1, M2, M3])
        self.assertEqual(together(self.book, [M2], [M1, 10]), [M1, M2, 10])
        self.assertEqual(together(self.book, [M1], [N1]), [M1, N1])

    def test_empty_texts(self):
        self.assertEqual(together(self.book, [], []), [])
        self.assertEqual(together(self.book, [11], []), [11])
        self.assertEqual(together(self.book, [], [M1, 11]), [M1, 11])

    def test_thirty_figures(self):
        self.assertEqual(together(self.book, [GREAT - 1], [MG]), [GREAT])


class LongTogether(Seams):
    def test_nothing_meets(self):
        self.assertEqual(long_together(self.book, [10, M1], [30, M1]), [10, M1, 30, M1])

    def test_marks_are_sorted_at_the_seam(self):
        self.assertEqual(long_together(self.book, [20, 10, M2], [M1, 20]), [20, 10, M1, M2, 20])
        self.assertEqual(long_together(self.book, [10, M1], [N1, M3]), [10, M1, N1, M3])
        self.assertEqual(long_together(self.book, [M2, M3], [M1]), [M1, M2, M3])

    def test_empty_texts(self):
        self.assertEqual(long_together(self.book, [], []), [])
        self.assertEqual(long_together(self.book, [10, M1], []), [10, M1])
        self.assertEqual(long_together(self.book, [], [M1, 10]), [M1, 10])


class All(Seams):
    def test_all_small_texts(self):
        texts = sample.all_texts([10, 11, 15, M1, N1, M2, M3], 2)
        for one in texts:
            for other in texts:
                self.put_both(one, other)

    def test_longer_texts(self):
        texts = sample.mixed_texts(300, 20, 13)
        for one, other in zip(texts, texts[1:]):
            self.put_both(one, other)

    def test_many_marks_at_the_seam(self):
        marks = [mark for mark in sample.RANKS for k in range(2)]
        chosen = random.Random(14)
        for number in range(200):
            one = [20, chosen.choice([10, 12, 14, 207, 999, 22])] + chosen.sample(marks, 4)
            other = chosen.sample(marks, 5) + [10, M1]
            self.put_both(one, other)
            self.put_both(one[2:], other)
            self.put_both(one, other[:5])

    def test_two_hundred_signs_each(self):
        chosen = random.Random(15)
        self.put_both(sample.mixed_text(200, chosen), sample.mixed_text(200, chosen))
        self.put_both([207] * 200, [207] * 200)


if __name__ == "__main__":
    unittest.main()
