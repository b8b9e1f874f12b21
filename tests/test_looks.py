import random
import unittest

import sample
from bothhands.books import Book
from bothhands.errors import NoPlace, NoWhat
from bothhands.forms import long_form, short_form
from bothhands.looks import compared, found_at, part_of, replaced, same_text
from bothhands.wholes import wholes_of
from odd_things import NO_SIGNS, NO_WHOLE_NUMBERS
from refusing import Refusing
from sample import GREAT, M1, M2, M3, MG, N1, N2

SMALL = [10, 11, 20, M1, M2]


class Looks(Refusing):
    def setUp(self):
        self.book = Book(sample.form_signs(), sample.mates(), sample.form_joins())

    def long_wholes(self, text):
        return wholes_of(self.book, long_form(self.book, text))

    def found_by_the_words(self, text, what):
        text, what = self.long_wholes(text), self.long_wholes(what)
        return [k for k in range(len(text)) if len(text) - k >= len(what)
                and all(text[k + j] == what[j] for j in range(len(what)))]

    def replaced_by_the_words(self, text, what, by):
        places, wholes, told, k = self.found_by_the_words(text, what), wholes_of(self.book, text), [], 0
        while k < len(wholes):
            told += by if k in places else wholes[k]
            k += len(wholes_of(self.book, what)) if k in places else 1
        return told

    def refused(self, error, function, *handed):
        self.refuses(error, function, self.book, *handed)


class SameText(Looks):
    def told(self, one, other, wanted):
        self.assertIs(same_text(self.book, one, other), wanted)
        self.assertIs(same_text(self.book, other, one), wanted)

    def test_the_same(self):
        self.told([], [], True)
        self.told([10], [10], True)
        self.told([11], [10, M1], True)
        self.told([12, 20], [10, M2, M1, 20], True)
        self.told([13, M1], [11, M2], True)
        self.told([M2, M1], [M1, M2], True)
        self.told([207], [200] + sample.CHAIN_MARKS, True)
        self.told([GREAT], [GREAT - 1, MG], True)

    def test_not_the_same(self):
        self.told([], [10], False)
        self.told([], [M1], False)
        self.told([10], [20], False)
        self.told([10], [10, 10], False)
        self.told([11], [10, N1], False)
        self.told([10, M1, N1], [10, N1, M1], False)
        self.told([10, 20], [20, 10], False)
        self.told([GREAT], [GREAT - 1], False)

    def test_by_the_long_forms(self):
        texts = sample.all_texts(SMALL, 2)
        for one in texts:
            for other in texts:
                self.told(one, other, long_form(self.book, one) == long_form(self.book, other))
        for text in sample.mixed_texts(100, 30, 51):
            self.told(text, short_form(self.book, text), True)
            self.told(text, long_form(self.book, text), True)
            self.told(text, text + [10], False)


class FoundAt(Looks):
    def told(self, text, what, wanted):
        self.assertEqual(found_at(self.book, text, what), wanted)

    def test_found(self):
        self.told([10, 20, 10], [10], [0, 2])
        self.told([10, 20, 10, 20], [10, 20], [0, 2])
        self.told([10, 20], [10, 20], [0])
        self.told([20, 10], [10], [1])

    def test_not_found(self):
        self.told([], [10], [])
        self.told([10], [20], [])
        self.told([10], [10, 10], [])
        self.told([10, 20], [20, 10], [])
        self.told([10, M1], [10], [])
        self.told([10], [10, M1], [])
        self.told([11], [10], [])

    def test_places_that_overlap(self):
        self.told([10, 10, 10, 10], [10, 10], [0, 1, 2])
        self.told([10, 20, 10, 20, 10], [10, 20, 10], [0, 2])

    def test_whole_signs_are_looked_at_by_their_long_forms(self):
        self.told([11, 20, 10, M1, 10, M2, M1], [10, M1], [0, 2])
        self.told([12, 10, M2, M1, 13, M1, 11, M2], [11, M2], [0, 1, 2, 3])
        self.told([10, M1, 20, 11], [11, 20, 10, M1], [0])

    def test_numbers_are_those_of_whole_signs(self):
        self.told([10, M3, N1, 20, M1, 10], [10], [2])
        self.told([M1, M2, 10, M3, 10], [10], [2])

    def test_a_text_that_begins_with_a_mark_looked_for(self):
        self.told([10, M1], [M1], [])
        self.told([M1], [M1], [0])
        self.told([M1, 10, M1], [M1], [0])
        self.told([M1, M2, 10], [M1], [])
        self.told([M2, M1, 10], [M1, M2], [0])
        self.told([M1, 10, 20], [M1, 10], [0])
        self.told([M1, 10, M2], [M1, 10], [])
        self.told([], [M1], [])
        self.told([20, M1, 10], [M1, 10], [])

    def test_a_text_that_begins_with_a_mark_looked_in(self):
        self.told([M1, 10, 20, 10], [10], [1, 3])
        self.told([M1], [10], [])

    def test_a_text_without_signs_is_refused(self):
        for text in ([], [10], [M1], [10, 20]):
            self.refused(NoWhat, found_at, text, [])

    def test_all_small_texts_by_the_words_of_the_document(self):
        texts = sample.all_texts(SMALL, 3)
        for text in texts:
            for what in texts[1::3]:
                self.told(text, what, self.found_by_the_words(text, what))

    def test_longer_texts(self):
        chosen = random.Random(52)
        for text in sample.mixed_texts(100, 40, 53) + [[10, 11, M1, 20] * 50, [M1] * 200]:
            wholes = wholes_of(self.book, text)
            if text:
                self.told(text, text, [0])
            for number in range(5):
                start = chosen.randrange(len(wholes) + 1)
                what = sum(wholes[start:start + 2], [])
                if what:
                    wanted = self.found_by_the_words(text, what)
                    self.assertIn(start, wanted)
                    for form in (what, long_form(self.book, what), short_form(self.book, what)):
                        self.told(text, form, wanted)
                        self.told(short_form(self.book, text), form, wanted)


class Replaced(Looks):
    def told(self, text, what, by, wanted):
        self.assertEqual(replaced(self.book, text, what, by), wanted)

    def test_wherever_it_is_found(self):
        self.told([10, 20, 10], [10], [30], [30, 20, 30])
        self.told([10, 20, 10, 20], [10, 20], [30, 0, 30], [30, 0, 30, 30, 0, 30])
        self.told([10], [10], [10], [10])

    def test_not_found(self):
        self.told([10, 20], [30], [10], [10, 20])
        self.told([], [30], [10], [])
        self.told([11], [10], [20], [11])

    def test_places_that_overlap(self):
        self.told([10, 10, 10], [10, 10], [20], [20, 10])
        self.told([10, 10, 10, 10], [10, 10], [20], [20, 20])
        self.told([10, 20, 10, 20, 10], [10, 20, 10], [30], [30, 20, 10])

    def test_what_is_put_in_is_without_signs(self):
        self.told([10, 20, 10], [10], [], [20])
        self.told([10, 10], [10], [], [])
        self.told([20, 10, M1], [11], [], [20])

    def test_what_is_put_in_begins_with_marks(self):
        self.told([20, 10, 20], [10], [M1], [20, M1, 20])
        self.told([10, 30, 20], [30], [M1, 20], [10, M1, 20, 20])
        self.told([10], [10], [M1, M2], [M1, M2])

    def test_what_is_looked_for_is_found_within_what_is_put_in(self):
        self.told([10, 20], [10], [10, 10], [10, 10, 20])
        self.told([10, 10], [10], [20, 10, 20], [20, 10, 20, 20, 10, 20])
        # The two signs that meet behind are not looked at again.
        self.told([10, 10, 20, 20], [10, 20], [], [10, 20])

    def test_told_in_no_form(self):
        self.told([13, M1, 30, 10, M2, M1], [30], [22, M3, M1], [13, M1, 22, M3, M1, 10, M2, M1])
        self.told([10, 30, 20], [30], [M1], [10, M1, 20])

    def test_found_by_the_long_forms(self):
        self.told([12, 20, 10, M2, M1], [11, M2], [30], [30, 20, 30])

    def test_a_text_that_begins_with_a_mark(self):
        self.told([M1, 10, M1], [M1], [20], [20, 10, M1])
        self.told([M2, M1, 10], [M1, M2, 10], [], [])
        self.told([10, M1], [M1], [20], [10, M1])

    def test_a_text_without_signs_is_refused(self):
        for text in ([], [10], [M1]):
            for by in ([], [10]):
                self.refused(NoWhat, replaced, text, [], by)

    def test_all_small_texts_by_the_words_of_the_document(self):
        texts = sample.all_texts([10, 11, M1], 4)
        for text in texts:
            for what in texts[1:30]:
                for by in ([], [M1, 10], [10, M1, 11]):
                    self.told(text, what, by, self.replaced_by_the_words(text, what, by))

    def test_two_hundred_signs(self):
        self.told([10] * 200, [10], [20, M1], [20, M1] * 200)
        self.told([10] * 199, [10, 10], [20], [20] * 99 + [10])


class Compared(Looks):
    def told(self, one, other, wanted):
        for told, sign in ((compared(self.book, one, other), 1), (compared(self.book, other, one), -1)):
            self.assertEqual(told, wanted * sign)
            self.assertIs(type(told), int)

    def test_the_same(self):
        self.told([], [], 0)
        self.told([10, 20], [10, 20], 0)
        self.told([12], [10, M2, M1], 0)
        self.told([M2, M1], [M1, M2], 0)

    def test_the_lesser_sign_goes_first(self):
        self.told([10], [20], -1)
        self.told([20, 10], [10, 20], 1)
        self.told([10, 20, 30], [10, 30, 20], -1)
        self.told([0], [10], -1)
        self.told([GREAT - 2], [GREAT - 1], -1)
        self.told([9], [10], -1)

    def test_by_the_long_forms(self):
        # 11 is 10 with M1, and M1 is greater than 20.
        self.told([11], [10, 20], 1)
        self.told([11], [10, M2], -1)
        self.told([15, 10], [13, 20], 1)
        self.told([10, M2, M1], [10, N1], -1)

    def test_one_is_the_beginning_of_the_other(self):
        self.told([], [10], -1)
        self.told([], [M1], -1)
        self.told([10], [10, 0], -1)
        self.told([10], [11], -1)
        self.told([11], [12], -1)
        self.told([207], [207, 0], -1)

    def test_an_order_of_all_small_texts(self):
        texts = sample.all_texts(SMALL, 2)
        for one in texts:
            for other in texts:
                longs = (long_form(self.book, one), long_form(self.book, other))
                places = [k for k in range(min(map(len, longs))) if longs[0][k] != longs[1][k]]
                keys = [form[places[0]] if places else len(form) for form in longs]
                self.told(one, other, (keys[0] > keys[1]) - (keys[0] < keys[1]))

    def test_longer_texts(self):
        texts = sample.mixed_texts(100, 40, 54)
        for one, other in zip(texts, texts[1:]):
            longs = (long_form(self.book, one), long_form(self.book, other))
            self.told(one, other, (longs[0] > longs[1]) - (longs[0] < longs[1]))
            self.told(one, short_form(self.book, one), 0)
            self.told(one, one + [10], -1)


class PartOf(Looks):
    def told(self, text, start, end, wanted):
        self.assertEqual(part_of(self.book, text, start, end), wanted)

    def test_parts(self):
        text = [M1, M2, 10, M1, 20, 30, M3, N2]
        self.told(text, 0, 4, text)
        self.told(text, 0, 1, [M1, M2])
        self.told(text, 1, 3, [10, M1, 20])
        self.told(text, 3, 4, [30, M3, N2])
        for at in range(5):
            self.told(text, at, at, [])
        self.told([], 0, 0, [])

    def test_told_in_no_form(self):
        self.told([10, M2, M1, 12, 20], 0, 2, [10, M2, M1, 12])

    def test_all_parts_of_longer_texts(self):
        for text in sample.mixed_texts(30, 20, 55):
            wholes = wholes_of(self.book, text)
            for end in range(len(wholes) + 1):
                for start in range(end + 1):
                    self.told(text, start, end, sum(wholes[start:end], []))

    def test_parts_that_are_not_there(self):
        for text in ([], [M1], [10, M1, M2], [M1, 10, M1, 20]):
            number = len(wholes_of(self.book, text))
            for start in range(-3, 7):
                for end in range(-3, 7):
                    if not 0 <= start <= end <= number:
                        self.refused(NoPlace, part_of, text, start, end)

    def test_great_numbers_and_other_things(self):
        for start, end in ((0, GREAT), (GREAT, GREAT), (-GREAT, 1), (0, 10 ** 5000), (-(10 ** 5000), 1), (GREAT, 0)):
            self.refused(NoPlace, part_of, [10, 20], start, end)
        for thing in NO_WHOLE_NUMBERS:
            self.refused(NoPlace, part_of, [10, 20], thing, 2)
            self.refused(NoPlace, part_of, [10, 20], 0, thing)
        for thing in NO_SIGNS:
            self.refused(NoPlace, part_of, [10, 20], thing, thing)


if __name__ == "__main__":
    unittest.main()
