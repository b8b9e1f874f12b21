import random
import unittest

import sample
from bothhands.books import Book
from bothhands.errors import NoStep
from bothhands.forms import long_form, short_form
from bothhands.steps import step_done, way_to
from sample import GREAT, M1, M2, M3, MG, N1, N2


def one_step_on(book, text):
    found = []
    for word in ("turn", "open", "join"):
        for k in range(len(text)):
            try:
                found.append(step_done(book, text, (word, k)))
            except NoStep:
                pass
    return found


def all_reached(book, text):
    seen, waiting = {tuple(text)}, [text]
    while waiting:
        for found in one_step_on(book, waiting.pop()):
            if tuple(found) not in seen:
                seen.add(tuple(found))
                waiting.append(found)
    return seen


class Ways(unittest.TestCase):
    def setUp(self):
        self.book = Book(sample.form_signs(), sample.mates(), sample.form_joins())

    def walked(self, one, other, book=None):
        book = book or self.book
        way = way_to(book, one, other)
        self.assertIs(type(way), list)
        text = list(one)
        for step in way:
            self.assertIs(type(step), tuple)
            self.assertEqual(len(step), 2)
            text = step_done(book, text, step)
        self.assertEqual(text, other)

    def walked_between_forms(self, text, book=None):
        book = book or self.book
        texts = [text, long_form(book, text), short_form(book, text)]
        for one in texts:
            for other in texts:
                self.walked(one, other, book)

    def no_way(self, one, other):
        self.assertIsNone(way_to(self.book, one, other))
        self.assertIsNone(way_to(self.book, other, one))


class ToItself(Ways):
    def test_from_a_text_to_itself(self):
        for text in [[], [10], [M1], [22, M3, M1], [207] * 3] + sample.mixed_texts(50, 20, 7):
            self.walked(text, list(text))

    def test_of_the_empty_text(self):
        self.assertEqual(way_to(self.book, [], []), [])


class BetweenTexts(Ways):
    def test_to_its_forms_and_between_them(self):
        for text in sample.mixed_texts(100, 25, 8):
            self.walked_between_forms(text)

    def test_single_steps(self):
        self.walked([11], [10, M1])
        self.walked([10, M1], [11])
        self.walked([10, M1, M2], [10, M2, M1])

    def test_several_whole_signs_of_changing_length(self):
        self.walked([M2, M1, 12, 20, M2, 30, 22], [M1, M2, 10, M2, M1, 21, 30, 21, M1])
        self.walked([207, 10, M1, 207], [206, M1, 11, 205, N2, M1])

    def test_between_two_texts_with_the_same_long_form(self):
        self.walked([13, M1], [11, M2])
        self.walked([13, M1], [12])
        self.walked([22], [20, M1, M2])
        self.walked([14, N1], [10, M2, N1, M2])

    def test_texts_that_begin_with_marks(self):
        self.walked([M3, M1, M2, 11], [M2, M3, M1, 10, M1])
        self.walked([M3, N1, M1], [N1, M3, M1])

    def test_ranks_and_signs_of_thirty_figures(self):
        self.walked([GREAT, M1], [GREAT - 1, M1, MG])
        self.walked([GREAT - 1, MG, M1], [GREAT, M1])

    def test_texts_of_random_steps(self):
        chosen = random.Random(9)
        for text in sample.mixed_texts(60, 20, 9):
            other = text
            for number in range(30):
                other = chosen.choice(one_step_on(self.book, other) or [other])
            self.walked(text, other)
            self.walked(other, text)


class NoWays(Ways):
    def test_unlike_long_forms(self):
        for one, other in (([], [10]), ([10], [20]), ([10, M1], [10]), ([10, M1, N1], [10, N1, M1]), ([11], [13]),
                           ([10, 20], [20, 10]), ([M1, 10], [10, M1]), ([M1, N1], [N1, M1]), ([11], [10, N1]),
                           ([10, 10], [10]), ([12, 20], [12]), ([10, M1, 20], [10, 20, M1]), ([], [M1])):
            self.no_way(one, other)

    def test_just_where_the_long_forms_are_alike(self):
        texts = sample.all_texts([10, 11, 13, M1, N1, M2], 2)
        for one in texts:
            for other in texts:
                if long_form(self.book, one) == long_form(self.book, other):
                    self.walked(one, other)
                else:
                    self.assertIsNone(way_to(self.book, one, other))


class StepsAndForms(Ways):
    def test_steps_lead_just_where_the_long_forms_are_alike(self):
        reached_from, classes = {}, {}
        for text in sample.all_texts([10, 12, 21, M1, N1, M2], 4):
            if tuple(text) not in reached_from:
                reached = frozenset(all_reached(self.book, text))
                reached_from.update({found: reached for found in reached})
            classes.setdefault(tuple(long_form(self.book, text)), set()).add(reached_from[tuple(text)])
        self.assertEqual(len({reached for found in classes.values() for reached in found}), len(classes))
        for long_one, found in classes.items():
            self.assertEqual(len(found), 1)
            reached = list(found)[0]
            self.assertIn(long_one, reached)
            self.assertEqual({tuple(long_form(self.book, list(text))) for text in reached}, {long_one})
            shorts = {tuple(short_form(self.book, list(text))) for text in reached}
            self.assertEqual(len(shorts), 1)
            self.assertLessEqual(shorts, reached)

    def test_ways_between_all_that_steps_reach(self):
        for text in ([12, M1], [22, M2], [M3, M1, M2], [11, 13, N1]):
            reached = sorted(all_reached(self.book, text))
            for one in reached:
                for other in reached:
                    self.walked(list(one), list(other))


class LongTexts(Ways):
    def test_two_hundred_signs(self):
        for seed in range(3):
            self.walked_between_forms(sample.mixed_text(200, random.Random(seed)))

    def test_two_hundred_wholes_of_seven_goings(self):
        text = [207] * 200
        self.walked_between_forms(text)
        self.assertIsNone(way_to(self.book, text, text[:-1]))

    def test_a_base_with_many_marks_in_the_wrong_order(self):
        book = Book([(k, "mark", 100 - k) for k in range(1, 100)], [], [(2000, 1000, 1), (2001, 2000, 99)])
        rising = [2001] + [1 + k // 2 for k in range(198)]
        self.walked(rising, long_form(book, rising), book)
        self.walked(long_form(book, rising), short_form(book, rising), book)
        middle = [2000] + rising[1:101] + [99] + rising[101:]
        self.assertEqual(long_form(book, middle), long_form(book, rising))
        self.walked(rising, middle, book)


if __name__ == "__main__":
    unittest.main()
