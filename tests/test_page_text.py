"""Pages: their text, putting and taking, and going by sign."""

import random
import unittest

import sample
from bothhands.books import Book
from bothhands.errors import NoPlace, NoWidth
from bothhands.forms import long_form, short_form
from bothhands.pages import Page
from bothhands.wholes import wholes_of
from odd_things import NO_SIGNS, NO_WHOLE_NUMBERS
from refusing import Refusing
from sample import GREAT, M1, M2, M3, MG, N1


# What 27 and 28 say, kept in the long form of the whole signs.
class Words:
    def __init__(self, book):
        self.book = book
        self.wholes = []
        self.hand = (0, 0)

    def put(self, signs):
        if signs:
            ahead = sum(self.wholes[:self.hand[0]], []) + signs
            behind = sum(self.wholes[self.hand[0]:], [])
            self.wholes = wholes_of(self.book, long_form(self.book, ahead + behind))
            self.hand = (len(wholes_of(self.book, long_form(self.book, ahead))), 0)
        return self.hand

    def take(self):
        if self.hand[0] == 0:
            return []
        place = self.hand[0] - 1
        taken = self.wholes[place]
        self.wholes = self.wholes[:place] + self.wholes[place + 1:]
        self.hand = (place, 1 if place == 0 and self.wholes else 0)
        return short_form(self.book, taken)

    def go(self, step):
        place = self.hand[0] + step
        if place < 0 or place > len(self.wholes):
            return False
        self.hand = (place, 0 if step == 1 else 1)
        return True

    def text(self):
        return short_form(self.book, sum(self.wholes, []))


class Pages(Refusing):
    def setUp(self):
        self.book = Book(sample.form_signs(), sample.mates(), sample.form_joins())
        self.page = Page(self.book, 10)

    def is_there(self, text, hand):
        self.assertEqual((self.page.text(), self.page.hand()), (text, hand))
        self.assertIs(type(self.page.hand()), tuple)

    def put(self, signs, text, hand):
        self.assertEqual(self.page.put(signs), hand)
        self.is_there(text, hand)

    def take(self, taken, text, hand):
        self.assertEqual(self.page.take(), taken)
        self.is_there(text, hand)

    def go(self, step, told, hand):
        self.assertIs(self.page.go(step), told)
        self.assertEqual(self.page.hand(), hand)


class Putting(Pages):
    def test_a_page_without_signs(self):
        self.is_there([], (0, 0))

    def test_at_the_end(self):
        self.put([10, 20], [10, 20], (2, 0))
        self.put([30], [10, 20, 30], (3, 0))

    def test_without_signs_nothing_changes(self):
        self.put([], [], (0, 0))
        self.put([10, 20], [10, 20], (2, 0))
        self.put([], [10, 20], (2, 0))
        self.page.stand(1, 1)
        self.put([], [10, 20], (1, 1))
        self.page.stand(0, 1)
        self.put([], [10, 20], (0, 1))

    def test_at_the_beginning_and_in_the_midst(self):
        self.page.put([10, 20])
        self.page.stand(0, 1)
        self.put([30, 0], [30, 0, 10, 20], (2, 0))
        self.page.stand(3, 1)
        self.put([999], [30, 0, 10, 999, 20], (4, 0))
        self.page.stand(4, 0)
        self.put([60], [30, 0, 10, 999, 60, 20], (5, 0))

    def test_the_text_is_in_short_form(self):
        self.put([10, M2, M1, 20, M3], [12, 20, M3], (2, 0))
        self.put([13, M1, GREAT - 1, MG], [12, 20, M3, 12, GREAT], (4, 0))

    def test_marks_alone_on_a_page_without_signs(self):
        self.put([M2], [M2], (1, 0))
        self.put([M1], [M1, M2], (1, 0))
        self.put([10], [M1, M2, 10], (2, 0))

    def test_marks_at_place_0(self):
        self.page.put([10])
        self.page.stand(0, 1)
        self.put([M1, N1], [M1, N1, 10], (1, 0))
        self.page.stand(0, 1)
        # These go together with those that the text begins with.
        self.put([M2], [M1, N1, M2, 10], (1, 0))

    def test_marks_behind_a_whole_sign(self):
        self.page.put([20, 10, 20])
        self.page.stand(2, 1)
        self.put([M1], [20, 11, 20], (2, 0))
        self.put([M2], [20, 12, 20], (2, 0))
        self.page.stand(2, 1)
        self.put([M3, M3], [20, 12, M3, M3, 20], (2, 0))
        self.put([M1], [20, 12, M1, M3, M3, 20], (2, 0))

    def test_marks_ahead_of_others_that_are_put(self):
        self.page.put([10])
        self.put([M1, 20, M2], [11, 21], (2, 0))

    def test_signs_that_take_marks_from_behind(self):
        self.page.put([M1, 20])
        self.page.stand(0, 1)
        self.put([10], [11, 20], (1, 0))
        self.page.take()
        self.page.put([M1])
        self.page.stand(0, 1)
        self.put([30, 10], [30, 11, 20], (2, 0))

    def test_signs_joined_with_those_ahead_and_behind(self):
        self.page.put([M2, 20])
        self.page.stand(0, 1)
        self.put([10, M1], [12, 20], (1, 0))

    def test_what_was_joined_is_let_go(self):
        self.page.put([15])
        self.put([M1], [11, M3], (1, 0))

    def test_the_list_put_is_not_kept(self):
        signs = [10, M1]
        self.page.put(signs)
        self.assertEqual(signs, [10, M1])
        signs[0] = 20
        signs.append(30)
        self.is_there([11], (1, 0))

    def test_the_told_text_is_the_askers_own(self):
        self.page.put([10, 20])
        told = self.page.text()
        told.append(30)
        told[0] = 0
        self.is_there([10, 20], (2, 0))
        self.assertIsNot(self.page.text(), self.page.text())
        kept = self.page.text()
        self.page.put([30])
        self.page.take()
        self.page.take()
        self.assertEqual(kept, [10, 20])
        Page(self.book, 1).text().append(10)
        self.assertEqual(Page(self.book, 1).text(), [])

    def test_its_own_text_is_put(self):
        self.page.put([10, 20])
        self.put(self.page.text(), [10, 20, 10, 20], (4, 0))


class Taking(Pages):
    def test_at_place_0(self):
        self.take([], [], (0, 0))
        self.page.put([10, 20])
        self.page.stand(0, 1)
        self.take([], [10, 20], (0, 1))

    def test_at_the_end(self):
        self.page.put([10, 20, 30])
        self.take([30], [10, 20], (2, 0))
        self.take([20], [10], (1, 0))
        self.take([10], [], (0, 0))
        self.take([], [], (0, 0))

    def test_in_the_midst(self):
        self.page.put([10, 20, 30, 0])
        self.page.stand(2, 1)
        self.take([20], [10, 30, 0], (1, 0))
        self.take([10], [30, 0], (0, 1))
        self.take([], [30, 0], (0, 1))

    def test_the_whole_sign_ahead_is_taken_whatever_the_side(self):
        for side in (0, 1):
            page = Page(self.book, 10)
            page.put([10, 20])
            page.stand(1, side)
            self.assertEqual((page.take(), page.text(), page.hand()), ([10], [20], (0, 1)))

    def test_whole_signs_with_marks(self):
        self.page.put([M3, M1, 10, M3, M1, 20, N1])
        self.take([20, N1], [M1, M3, 11, M3], (2, 0))
        self.take([11, M3], [M1, M3], (1, 0))
        self.take([M1, M3], [], (0, 0))

    def test_the_first_whole_sign_is_taken(self):
        self.page.put([M1, 10, 20])
        self.page.stand(1, 0)
        self.take([M1], [10, 20], (0, 1))

    def test_a_page_from_which_all_was_taken_again(self):
        self.page.put([10, M3, 20])
        self.page.take()
        self.page.take()
        self.is_there([], (0, 0))
        self.put([M1], [M1], (1, 0))
        self.page.take()
        self.put([20], [20], (1, 0))

    def test_what_is_told_is_the_askers_own(self):
        self.page.put([10, 20, M1])
        taken = self.page.take()
        taken.append(7)
        taken[0] = 8
        self.is_there([10], (1, 0))
        self.page.stand(0, 1)
        self.page.take().append(7)
        self.take([], [10], (0, 1))


class Going(Pages):
    def test_on_a_page_without_signs(self):
        self.go(1, False, (0, 0))
        self.go(-1, False, (0, 0))

    def test_there_and_back(self):
        self.page.put([10, M3, 20, M3, 30])
        self.go(1, False, (3, 0))
        self.go(-1, True, (2, 1))
        self.go(-1, True, (1, 1))
        self.go(-1, True, (0, 1))
        self.go(-1, False, (0, 1))
        self.go(1, True, (1, 0))
        self.go(1, True, (2, 0))
        self.go(-1, True, (1, 1))
        self.go(1, True, (2, 0))
        self.go(1, True, (3, 0))
        self.go(1, False, (3, 0))
        self.assertEqual(self.page.text(), [15, 20, M3, 30])

    def test_the_side_at_the_end_stays(self):
        self.page.put([10])
        self.go(1, False, (1, 0))
        self.page.stand(0, 1)
        self.go(-1, False, (0, 1))

    def test_with_either_side(self):
        self.page.put([10, 20, 30])
        for side in (0, 1):
            self.page.stand(1, side)
            self.go(1, True, (2, 0))
            self.page.stand(2, side)
            self.go(-1, True, (1, 1))


class Many(Pages):
    def alike(self, page, words):
        self.assertEqual((page.text(), page.hand()), (words.text(), words.hand))

    def test_many_doings(self):
        chosen = random.Random(61)
        for number in range(60):
            page, words = Page(self.book, chosen.choice([1, 3, 10])), Words(self.book)
            for doing in range(60):
                which = chosen.randrange(10)
                if which < 4:
                    signs = sample.mixed_text(chosen.randrange(5), chosen)
                    self.assertEqual(page.put(signs), words.put(signs))
                elif which < 6:
                    self.assertEqual(page.take(), words.take())
                else:
                    step = chosen.choice([1, -1])
                    self.assertIs(page.go(step), words.go(step))
                self.alike(page, words)
                self.assertEqual(short_form(self.book, page.text()), page.text())

    def test_three_hundred_signs(self):
        chosen = random.Random(62)
        page, words = Page(self.book, 20), Words(self.book)
        for number in range(3):
            signs = sample.mixed_text(100, chosen)
            self.assertEqual(page.put(signs), words.put(signs))
            page.stand(len(words.wholes) // 2, 0)
            words.hand = (len(words.wholes) // 2, 0)
        while words.hand[0] > 0:
            self.assertEqual(page.take(), words.take())
            self.alike(page, words)

    def test_pages_beside_one_another(self):
        other = Page(self.book, 10)
        third = Page(Book([], [], []), 1, 1, 0)
        self.page.put([10, M1, 20])
        self.assertEqual((other.text(), other.hand(), third.text()), ([], (0, 0), []))
        other.put([30])
        third.put([10, M1])
        self.page.go(-1)
        third.take()
        self.is_there([11, 20], (1, 1))
        self.assertEqual((other.text(), other.hand()), ([30], (1, 0)))
        self.assertEqual((third.text(), third.hand()), ([10], (1, 0)))


class Wrong(Pages):
    def test_widths_that_are_none(self):
        for thing in NO_SIGNS + [0, -2]:
            self.refuses(NoWidth, Page, self.book, thing)
            self.refuses(NoWidth, Page, self.book, thing, 1, 3)

    def test_widths_that_are_some(self):
        for width in (1, 2, 200, GREAT):
            page = Page(self.book, width)
            page.put([10, 20])
            self.assertEqual(page.text(), [10, 20])

    def test_steps_that_are_none(self):
        for signs in ([], [10, 20, M1, 30]):
            self.page.put(signs)
            if signs:
                self.page.stand(1, 1)
            before = (self.page.text(), self.page.hand())
            for thing in NO_WHOLE_NUMBERS + [0, 2, -2, 3, GREAT, -GREAT, 10 ** 5000, -(10 ** 5000)]:
                self.refuses(NoPlace, self.page.go, thing)
                self.refuses(NoPlace, self.page.look, thing)
                self.is_there(*before)


if __name__ == "__main__":
    unittest.main()
