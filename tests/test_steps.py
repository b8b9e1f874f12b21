import unittest

import sample
from bothhands.books import Book
from bothhands.errors import HandsError, NoBook, NoPlace, NoStep, NoWhat, NoWidth
from bothhands.forms import long_form, short_form
from bothhands.steps import step_done
from sample import GREAT, M1, M2, M3, MG, N1

WORDS = ("turn", "open", "join")


class Steps(unittest.TestCase):
    def setUp(self):
        self.book = Book(sample.form_signs(), sample.mates(), sample.form_joins())

    def done(self, text, step, wanted):
        self.assertEqual(step_done(self.book, text, step), wanted)

    def refused(self, text, step):
        before = list(text)
        with self.assertRaises(NoStep) as caught:
            step_done(self.book, text, step)
        self.assertEqual(text, before)
        return caught.exception


class Turns(Steps):
    def test_marks_of_unlike_ranks(self):
        self.done([10, M1, M2], ("turn", 1), [10, M2, M1])
        self.done([10, M2, M1], ("turn", 1), [10, M1, M2])
        self.done([10, M2, M1, M3, 20], ("turn", 2), [10, M2, M3, M1, 20])

    def test_marks_that_a_text_begins_with(self):
        self.done([M1, M2, 10], ("turn", 0), [M2, M1, 10])

    def test_ranks_of_thirty_figures(self):
        self.done([10, MG, M1], ("turn", 1), [10, M1, MG])
        book = Book([(1, "mark", GREAT), (2, "mark", GREAT - 1)], [], [])
        self.assertEqual(step_done(book, [1, 2], ("turn", 0)), [2, 1])

    def test_marks_of_alike_ranks(self):
        self.refused([10, M1, N1], ("turn", 1))
        self.refused([10, M1, M1], ("turn", 1))

    def test_signs_that_are_no_marks(self):
        self.refused([10, M1], ("turn", 0))
        self.refused([M1, 10], ("turn", 0))
        self.refused([10, 20], ("turn", 0))
        self.refused([11, M2], ("turn", 0))


class Opens(Steps):
    def test_a_whole(self):
        self.done([11], ("open", 0), [10, M1])
        self.done([20, 11, M2, 30], ("open", 1), [20, 10, M1, M2, 30])

    def test_a_whole_of_several_goings_goes_but_once(self):
        self.done([12], ("open", 0), [11, M2])
        self.done([207, M1], ("open", 0), [206, M1, M1])

    def test_the_last_sign(self):
        self.done([10, 11], ("open", 1), [10, 10, M1])

    def test_signs_of_thirty_figures(self):
        self.done([GREAT], ("open", 0), [GREAT - 1, MG])

    def test_a_sign_that_is_no_whole(self):
        for sign in (10, 999, M1, 200, 60, 50, GREAT - 1):
            self.refused([sign], ("open", 0))
            self.refused([11, sign, 11], ("open", 1))


class Joins(Steps):
    def test_base_and_mark(self):
        self.done([10, M1], ("join", 0), [11])
        self.done([20, 10, M1, M2, 30], ("join", 1), [20, 11, M2, 30])

    def test_a_base_that_is_a_whole(self):
        self.done([11, M2], ("join", 0), [12])

    def test_signs_of_thirty_figures(self):
        self.done([10, GREAT - 1, MG], ("join", 1), [10, GREAT])

    def test_a_join_that_leaves_the_short_form(self):
        self.done([21, M1], ("join", 0), [22])

    def test_a_pair_that_is_not_joined(self):
        for pair in ([10, N1], [11, M1], [M1, 10], [10, 10], [M1, M2], [999, M1], [12, M2], [60, 61], [10, 11]):
            self.refused(pair, ("join", 0))
            self.refused([11] + pair + [11], ("join", 1))

    def test_base_and_mark_with_a_mark_between(self):
        self.refused([10, N1, M1], ("join", 0))
        self.refused([10, N1, M1], ("join", 1))


class Numbers(Steps):
    def test_below_0(self):
        text = [11, 10, M1, M2, M1, 11]
        for k in (-1, -2, -3, -4, -5, -6, -7, -GREAT, -(10 ** 5000)):
            for word in WORDS:
                self.refused(text, (word, k))
        self.refused([M1, M2], ("turn", -1))
        self.refused([M1, M2], ("turn", -2))
        self.refused([10, M1], ("join", -2))
        self.refused([M1, 10], ("join", -1))

    def test_beyond_the_text(self):
        for text in ([], [11], [10, M1], [M2, M1], [11, M2, M1]):
            for k in (len(text), len(text) + 1, 200, GREAT, 10 ** 5000):
                for word in WORDS:
                    self.refused(text, (word, k))

    def test_at_the_last_sign(self):
        for text in ([11], [10, M1], [M2, M1], [11, 10]):
            self.refused(text, ("turn", len(text) - 1))
            self.refused(text, ("join", len(text) - 1))
        self.refused([11, 10], ("open", 1))

    def test_the_last_two_signs(self):
        self.done([10, 10, M1], ("join", 1), [10, 11])
        self.done([10, M2, M1], ("turn", 1), [10, M1, M2])

    def test_what_the_refusal_is_taken_as(self):
        error = self.refused([10], ("open", 0))
        for taken in (NoStep, HandsError, ValueError):
            self.assertIsInstance(error, taken)
        for other in (NoBook, NoWidth, NoPlace, NoWhat):
            self.assertNotIsInstance(error, other)


class All(Steps):
    def by_the_words(self, text, word, k):
        here, both = text[k:k + 1], tuple(text[k:k + 2])
        if word == "open":
            parts = [pair for whole, *pair in sample.form_joins() if here == [whole]]
            return text[:k] + parts[0] + text[k + 1:] if parts else None
        if word == "join":
            wholes = [whole for whole, *pair in sample.form_joins() if both == tuple(pair)]
            return text[:k] + wholes[:1] + text[k + 2:] if wholes else None
        ranks = [sample.RANKS.get(sign) for sign in both]
        if len(both) < 2 or None in ranks or ranks[0] == ranks[1]:
            return None
        return text[:k] + [both[1], both[0]] + text[k + 2:]

    def test_many_texts_by_the_words_of_the_document(self):
        for text in sample.mixed_texts(150, 15, 6) + sample.all_texts([10, 12, M1, N1, M2], 3):
            for word in WORDS:
                for k in range(len(text) + 2):
                    wanted = self.by_the_words(text, word, k)
                    if wanted is None:
                        self.refused(text, (word, k))
                        continue
                    self.done(text, (word, k), wanted)
                    self.assertEqual(long_form(self.book, wanted), long_form(self.book, text))
                    self.assertEqual(short_form(self.book, wanted), short_form(self.book, text))


if __name__ == "__main__":
    unittest.main()
