"""Pages: their rows, what is shown, the hand by sight, and marked stretches."""

import random
import unittest

import sample
from bothhands.books import Book
from bothhands.errors import NoPlace
from bothhands.hands import place_of, sight_of
from bothhands.nests import own_base
from bothhands.orders import order_of
from bothhands.pages import Page
from bothhands.pieces import seen_pieces
from bothhands.rows import cut_rows, row_levels, row_shown
from bothhands.wholes import wholes_of
from odd_things import NO_SIGNS, NO_WHOLE_NUMBERS
from refusing import Refusing
from sample import BACK, BLANK, FORE, GREAT, LOW, NUM, OPEN, SHUT, spelled

BOOK = Book(sample.signs(), sample.mates(), sample.joins())
SETTINGS = [(1, None, 20), (2, 0, 20), (3, 1, 2), (5, None, 60), (8, 60, 60), (GREAT, 1, 0), (4, 5, 6)]


def page_of(signs, width, base=None, most=20):
    page = Page(BOOK, width, base, most)
    page.put(signs)
    return page


def number_of(page):
    return len(wholes_of(BOOK, page.text()))


def holds(number):
    # All places of a page with so many whole signs that hold to one of them.
    return [(place, side) for place in range(number + 1) for side in (0, 1) if 0 <= place - 1 + side < number]


def some_pages(seed, number=16, most_signs=20):
    texts = sample.spelled_texts(number, most_signs, seed, "FFBBNN___p'fboo()[]")
    return [(text, setting) for text in texts for setting in SETTINGS if text]


class Rows(unittest.TestCase):
    def test_without_signs(self):
        for width, base, most in SETTINGS:
            page = Page(BOOK, width, base, most)
            self.assertEqual((page.rows(), page.shown()), ([(0, 0)], [[]]))

    def test_rows(self):
        page = page_of(spelled("FF_BBB_N"), 4)
        self.assertEqual(page.rows(), [(0, 3), (3, 7), (7, 8)])
        self.assertEqual(page.shown(), [[[FORE], [FORE], [BLANK]], [[BACK], [BACK], [BACK], [BLANK]], [[NUM]]])

    def test_what_is_shown(self):
        page = page_of([OPEN, LOW, BACK, LOW, SHUT, NUM], 3, 1)
        self.assertEqual(page.shown(), [[[OPEN], [21], [SHUT, LOW]], [[NUM]]])

    def test_base_and_most(self):
        text = spelled("BfF(")
        self.assertEqual(page_of(text, 9).shown(), [row_shown(BOOK, text, (0, 4), 1, 20)])
        self.assertEqual(page_of(text, 9, 0).shown(), [row_shown(BOOK, text, (0, 4), 0, 20)])
        self.assertEqual(page_of(text, 9, None, 1).shown(), [row_shown(BOOK, text, (0, 4), 1, 1)])
        self.assertEqual(page_of(spelled("f" * 11 + "F_F"), 12, 1).shown(),
                         [row_shown(BOOK, spelled("f" * 11 + "F_F"), row, 1, 20) for row in ((0, 12), (12, 14))])

    def test_base_left_out_follows_the_text(self):
        page = page_of(spelled("FB"), 9)
        self.assertEqual(page.shown(), [[[FORE], [BACK]]])
        page.stand(0, 1)
        page.put([BACK])
        self.assertEqual(page.shown(), [[[BACK], [FORE], [BACK]]])
        self.assertEqual(page.sight(), (0, 2, 1))
        page.take()
        self.assertEqual(page.sight(), (0, 0, 1))

    def test_as_rows_tell(self):
        for text, (width, base, most) in some_pages(71):
            page = page_of(text, width, base, most)
            self.assertEqual(page.rows(), cut_rows(BOOK, page.text(), width))
            self.assertEqual(page.shown(), [row_shown(BOOK, page.text(), row, base, most) for row in page.rows()])

    def test_what_is_told_is_the_askers_own(self):
        page = page_of(spelled("F_BB(B)"), 3)
        rows, shown = [(0, 2), (2, 5), (5, 7)], [[[FORE], [BLANK]], [[SHUT], [BACK], [BACK]], [[OPEN], [BACK]]]
        told = (page.rows(), page.shown())
        kept = (page.rows(), page.shown())
        self.assertEqual(told, (rows, shown))
        told[0].append((7, 8))
        told[0][0] = (9, 9)
        told[1][0][0].append(7)
        told[1][1].clear()
        told[1].append([])
        self.assertEqual((page.rows(), page.shown()), (rows, shown))
        self.assertEqual(page.text(), spelled("F_BB(B)"))
        page.take()
        page.take()
        self.assertEqual(kept, (rows, shown))


class Sights(unittest.TestCase):
    def sight_by_the_words(self, page, width, base, most):
        place, side = page.hand()
        text = page.text()
        if not text:
            return (0, 0, 0)
        lowest = own_base(BOOK, text) if base is None else base
        for number, (start, end) in enumerate(cut_rows(BOOK, text, width)):
            if (start < place <= end) if side == 0 else (start <= place < end):
                levels = row_levels(BOOK, text, (start, end), base, most)
                return (number,) + sight_of(levels, lowest, place - start, side)

    def test_without_signs(self):
        for width, base, most in SETTINGS:
            page = Page(BOOK, width, base, most)
            self.assertEqual(page.sight(), (0, 0, 0))
            self.assertEqual(page.point(0, 0, 0), (0, 0))
            self.assertEqual(page.stand(0, 0), (0, 0))
            self.assertEqual((page.hand(), page.sight()), ((0, 0), (0, 0, 0)))
            self.assertIs(page.look(1), False)
            self.assertIs(page.look(-1), False)
            self.assertEqual((page.hand(), page.sight()), ((0, 0), (0, 0, 0)))

    def test_a_page_from_which_all_was_taken_again(self):
        for base in (None, 0, 1):
            page = page_of([BACK], 3, base)
            page.take()
            self.assertEqual((page.sight(), page.point(0, 0, 0), page.look(1)), ((0, 0, 0), (0, 0), False))

    def test_in_one_row(self):
        page = page_of(spelled("FBBF"), 9)
        wanted = {(0, 1): (0, 0, 1), (1, 0): (0, 1, 0), (1, 1): (0, 3, 0), (2, 0): (0, 2, 1), (2, 1): (0, 2, 0),
                  (3, 0): (0, 1, 1), (3, 1): (0, 3, 1), (4, 0): (0, 4, 0)}
        self.assertEqual(sorted(wanted), sorted(holds(4)))
        for place, sight in wanted.items():
            self.assertEqual(page.stand(*place), place)
            self.assertEqual(page.sight(), sight)
            self.assertIs(type(page.sight()), tuple)

    def test_between_two_rows(self):
        page = page_of(spelled("FFBB"), 2)
        page.stand(2, 0)
        self.assertEqual(page.sight(), (0, 2, 0))
        page.stand(2, 1)
        self.assertEqual(page.sight(), (1, 2, 0))
        self.assertEqual(page.point(0, 2, 0), (2, 0))
        self.assertEqual(page.point(1, 2, 0), (2, 1))
        page = page_of(spelled("BBFF"), 2)
        page.stand(2, 0)
        self.assertEqual(page.sight(), (0, 0, 1))
        page.stand(2, 1)
        self.assertEqual(page.sight(), (1, 0, 1))

    def test_there_and_back(self):
        for text, (width, base, most) in some_pages(72):
            page = page_of(text, width, base, most)
            for place in holds(number_of(page)):
                self.assertEqual(page.stand(*place), place)
                sight = page.sight()
                self.assertEqual(sight, self.sight_by_the_words(page, width, base, most))
                page.stand(0, 1)
                self.assertEqual(page.point(*sight), place)
                self.assertEqual((page.hand(), page.sight()), (place, sight))

    def test_each_sight_is_a_place(self):
        for text, (width, base, most) in some_pages(73):
            page = page_of(text, width, base, most)
            met = []
            for number, (start, end) in enumerate(page.rows()):
                levels = row_levels(BOOK, page.text(), (start, end), base, most)
                for gap, hand in holds(end - start):
                    place, side = place_of(levels, 0, gap, hand)
                    self.assertEqual(page.point(number, gap, hand), (start + place, side))
                    self.assertEqual(page.sight(), (number, gap, hand))
                    met.append(page.hand())
            self.assertEqual(sorted(met), holds(number_of(page)))

    def test_the_text_stays(self):
        page = page_of(spelled("FB'N_F"), 2)
        page.point(1, 1, 0)
        page.stand(1, 1)
        page.look(1)
        page.go(-1)
        self.assertEqual(page.text(), [FORE, 21, NUM, BLANK, FORE])


class Looking(unittest.TestCase):
    def look(self, page, step, told, hand):
        self.assertIs(page.look(step), told)
        self.assertEqual(page.hand(), hand)

    def test_there_and_back(self):
        page = page_of(spelled("FBBF"), 9)
        page.stand(0, 1)
        self.look(page, -1, False, (0, 1))
        self.look(page, 1, True, (1, 0))
        self.look(page, 1, True, (2, 1))
        self.look(page, 1, True, (1, 1))
        self.look(page, 1, True, (4, 0))
        self.look(page, 1, False, (4, 0))
        self.look(page, -1, True, (3, 1))
        self.look(page, -1, True, (2, 0))
        self.look(page, -1, True, (3, 0))
        self.look(page, -1, True, (0, 1))
        self.look(page, -1, False, (0, 1))

    def test_within_its_row(self):
        page = page_of(spelled("FFBB"), 2)
        page.stand(2, 0)
        self.look(page, 1, False, (2, 0))
        self.look(page, -1, True, (1, 1))
        self.look(page, -1, True, (0, 1))
        self.look(page, -1, False, (0, 1))
        page.stand(2, 1)
        self.look(page, 1, False, (2, 1))
        self.look(page, -1, True, (3, 0))
        self.look(page, -1, True, (4, 0))
        self.look(page, -1, False, (4, 0))

    def test_each_whole_sign_of_the_row_is_passed_once(self):
        for text, (width, base, most) in some_pages(74):
            page = page_of(text, width, base, most)
            for number, (start, end) in enumerate(page.rows()):
                order = order_of(row_levels(BOOK, page.text(), (start, end), base, most))
                for step, seen in ((1, order), (-1, order[::-1])):
                    page.point(number, 0 if step == 1 else end - start, 1 if step == 1 else 0)
                    met = []
                    while page.look(step):
                        met.append(page.hand()[0] - 1 + page.hand()[1] - start)
                        self.assertEqual(page.sight()[:2], (number, len(met) if step == 1 else end - start - len(met)))
                    self.assertEqual(met, seen)

    def test_from_each_place(self):
        for text, (width, base, most) in some_pages(75):
            page = page_of(text, width, base, most)
            for place in holds(number_of(page)):
                page.stand(*place)
                row, gap, hand = page.sight()
                number = page.rows()[row][1] - page.rows()[row][0]
                for step in (1, -1):
                    page.stand(*place)
                    there = 0 <= gap + step <= number
                    self.assertIs(page.look(step), there)
                    wanted = (row, gap + step, 0 if step == 1 else 1) if there else (row, gap, hand)
                    self.assertEqual(page.sight(), wanted)


class Marked(unittest.TestCase):
    def told(self, page, start, end, wanted):
        told = page.marked(start, end)
        self.assertEqual(told, wanted)
        self.assertEqual((type(told), {type(piece) for piece in told} - {tuple}), (list, set()))

    def test_in_one_row(self):
        page = page_of(spelled("FBBBF"), 9)
        self.told(page, 0, 5, [(0, 0, 5)])
        self.told(page, 0, 2, [(0, 0, 1), (0, 3, 4)])
        self.told(page, 2, 5, [(0, 1, 3), (0, 4, 5)])
        self.told(page, 2, 3, [(0, 2, 3)])

    def test_over_several_rows(self):
        page = page_of(spelled("FBBBFFBBF"), 3)
        self.told(page, 0, 9, [(0, 0, 3), (1, 0, 3), (2, 0, 3)])
        self.told(page, 1, 8, [(0, 1, 3), (1, 0, 3), (2, 0, 2)])
        self.told(page, 2, 4, [(0, 1, 2), (1, 0, 1)])
        self.told(page, 2, 7, [(0, 1, 2), (1, 0, 3), (2, 1, 2)])
        self.told(page, 3, 6, [(1, 0, 3)])

    def test_nothing(self):
        page = page_of(spelled("FB_F"), 2)
        for at in range(5):
            self.told(page, at, at, [])
        self.told(Page(BOOK, 3), 0, 0, [])

    def test_as_pieces_tell(self):
        chosen = random.Random(76)
        for text, (width, base, most) in some_pages(77):
            page = page_of(text, width, base, most)
            hand = page.hand()
            number = number_of(page)
            for k in range(6):
                start, end = sorted([chosen.randrange(number + 1), chosen.randrange(number + 1)])
                wanted = []
                for row, (first, last) in enumerate(page.rows()):
                    levels = row_levels(BOOK, page.text(), (first, last), base, most)
                    marked = [thing for thing in range(first, last) if start <= thing < end]
                    if marked:
                        pieces = seen_pieces(levels, marked[0] - first, marked[-1] + 1 - first)
                        wanted += [(row, left, right) for left, right in pieces]
                self.told(page, start, end, wanted)
            self.assertEqual(page.hand(), hand)

    def test_what_is_told_is_the_askers_own(self):
        page = page_of(spelled("FBB"), 9)
        told = page.marked(0, 2)
        told.append((1, 1, 1))
        told[0] = (7, 7, 7)
        self.told(page, 0, 2, [(0, 0, 1), (0, 2, 3)])
        page.marked(1, 1).append((0, 0, 0))
        self.told(page, 1, 1, [])


class Wrong(Refusing):
    def setUp(self):
        self.pages = []
        for signs in ("", "F", "N''B_)'", "'FBN'_B(F)_FfB"):
            for width, base, most in SETTINGS[:4]:
                page = page_of(spelled(signs), width, base, most)
                self.pages.append(page)
        page = page_of(spelled("FB"), 3)
        page.take()
        page.take()
        self.pages.append(page)
        page = page_of(spelled("FBN_B"), 3)
        page.stand(1, 1)
        self.pages.append(page)

    def refused(self, page, function, *handed):
        before = (page.text(), page.hand(), page.sight())
        self.refuses(NoPlace, function, *handed)
        self.assertEqual((page.text(), page.hand(), page.sight()), before)

    def test_places_of_small_numbers(self):
        for page in self.pages:
            number = number_of(page)
            there = holds(number) if number else [(0, 0)]
            for place in range(-2, number + 4):
                for side in range(-2, 4):
                    if (place, side) in there:
                        self.assertEqual(page.stand(place, side), (place, side))
                    else:
                        self.refused(page, page.stand, place, side)

    def test_sights_of_small_numbers(self):
        for page in self.pages:
            rows = page.rows()
            for row in range(-2, len(rows) + 2):
                number = rows[row][1] - rows[row][0] if 0 <= row < len(rows) else None
                there = holds(number or 0) if number != 0 else [(0, 0)]
                for gap in range(-2, (number or 0) + 3):
                    for hand in range(-2, 4):
                        if (gap, hand) in there:
                            self.assertEqual(page.point(row, gap, hand), page.hand())
                        else:
                            self.refused(page, page.point, row, gap, hand)

    def test_what_holds_to_no_whole_sign(self):
        page = page_of(spelled("FB_FB"), 3)
        for place in ((0, 0), (5, 1)):
            self.refused(page, page.stand, *place)
        for sight in ((0, 0, 0), (0, 3, 1), (1, 0, 0), (1, 2, 1)):
            self.refused(page, page.point, *sight)
        page = Page(BOOK, 3, 1)
        self.refused(page, page.stand, 0, 1)
        self.refused(page, page.point, 0, 0, 1)

    def test_great_numbers(self):
        for page in self.pages:
            for thing in (GREAT, -GREAT, 10 ** 5000, -(10 ** 5000)):
                for handed in ((thing, 0), (0, thing), (1, thing), (thing, thing)):
                    self.refused(page, page.stand, *handed)
                    self.refused(page, page.marked, *handed)
                for handed in ((thing, 0, 0), (0, thing, 0), (0, 0, thing), (0, 1, thing), (thing, thing, thing)):
                    self.refused(page, page.point, *handed)

    def test_things_that_are_no_whole_numbers(self):
        for page in self.pages[::4]:
            for thing in NO_SIGNS:
                for handed in ((thing, 0), (thing, 1), (0, thing), (1, thing), (thing, thing)):
                    self.refused(page, page.stand, *handed)
                for handed in ((thing, 0, 0), (thing, 1, 0), (0, thing, 0), (0, thing, 1), (0, 0, thing), (0, 1, thing),
                               (thing, thing, thing)):
                    self.refused(page, page.point, *handed)
            for thing in NO_WHOLE_NUMBERS:
                for handed in ((thing, 0), (0, thing), (thing, thing)):
                    self.refused(page, page.marked, *handed)

    def test_marked_spans(self):
        for page in self.pages:
            number = number_of(page)
            for start in range(-2, number + 3):
                for end in range(-2, number + 3):
                    if 0 <= start <= end <= number:
                        self.assertEqual(bool(page.marked(start, end)), start < end)
                    else:
                        self.refused(page, page.marked, start, end)


if __name__ == "__main__":
    unittest.main()
