import unittest

import sample
from bothhands.books import Book
from bothhands.errors import NoPlace
from bothhands.forms import long_form, short_form
from bothhands.levels import levels_of
from bothhands.nests import own_base
from bothhands.orders import order_of
from bothhands.rows import cut_rows, row_levels, row_shown
from bothhands.wholes import kinds_of, wholes_of
from odd_things import NO_SIGNS, NO_WHOLE_NUMBERS
from refusing import Refusing
from sample import BACK, BLANK, FORE, GREAT, HIGH, LOW, OPEN, OTHER_OPEN, OTHER_SHUT, SHUT, spelled

MATES = {OPEN: SHUT, SHUT: OPEN, OTHER_OPEN: OTHER_SHUT, OTHER_SHUT: OTHER_OPEN}
LETTERS_OF = {sign: letter for letter, sign in sample.LETTERS.items()}


def all_rows(number):
    return [(start, end) for end in range(number + 1) for start in range(end + 1)]


class Rows(Refusing):
    def setUp(self):
        self.book = Book(sample.signs(), sample.mates(), sample.joins())

    def levels_by_the_words(self, text, row, base, most):
        kinds, start, end = kinds_of(self.book, text), row[0], row[1]
        levels = levels_of(self.book, text, base, most)
        lowest = own_base(self.book, text) if base is None else base
        return [lowest if set(kinds[k:end]) == {"blank"} else levels[k] for k in range(start, end)]

    def shown_by_the_words(self, text, row, base, most):
        levels = self.levels_by_the_words(text, row, base, most)
        shown = []
        for k in order_of(levels):
            whole = list(wholes_of(self.book, text)[row[0] + k])
            whole[0] = MATES.get(whole[0], whole[0]) if levels[k] % 2 else whole[0]
            shown.append(whole)
        return shown

    def by_the_words(self, text, row, base=None, most=20):
        self.assertEqual(row_levels(self.book, text, row, base, most),
                         self.levels_by_the_words(text, row, base, most), (text, row, base, most))
        self.assertEqual(row_shown(self.book, text, row, base, most),
                         self.shown_by_the_words(text, row, base, most), (text, row, base, most))


class RowLevels(Rows):
    def told(self, letters, row, base, wanted, most=20):
        told = row_levels(self.book, spelled(letters), row, base, most)
        self.assertEqual(told, wanted, (letters, row))
        self.assertEqual((type(told), {type(level) for level in told} - {int}), (list, set()))

    def test_the_levels_are_those_of_the_text(self):
        self.told("FBN", (0, 3), 0, [0, 1, 2])
        self.told("FBN", (1, 3), 0, [1, 2])
        self.told("FBN", (2, 3), 0, [2])
        # By itself the row would begin with another way.
        self.told("BpB", (1, 3), 0, [1, 1])
        self.told("fFB", (1, 3), 0, [2, 3])

    def test_rows_of_start_and_end_alike(self):
        for at in range(4):
            self.told("FBN", (at, at), 0, [])
        self.told("", (0, 0), 0, [])

    def test_blanks_at_the_end(self):
        self.told("B_B", (0, 3), 0, [1, 1, 1])
        self.told("B_B", (0, 2), 0, [1, 0])
        self.told("B__B", (0, 3), 0, [1, 0, 0])
        self.told("F_F", (0, 2), 1, [2, 1])
        self.told("fF_F", (0, 3), 0, [0, 2, 0])
        self.told("fF_F", (1, 3), 1, [2, 1])

    def test_marks_behind_the_blanks(self):
        self.told("B_'B", (0, 2), 0, [1, 0])
        self.told("B_''_'B", (0, 3), 0, [1, 0, 0])
        self.assertEqual(row_levels(self.book, [BACK, 1, HIGH, BACK], (0, 2), 0), [1, 0])

    def test_blanks_alone(self):
        self.told("B__B", (1, 3), 0, [0, 0])
        self.told("B__B", (1, 2), 0, [0])
        self.told("fF__F", (2, 4), 1, [1, 1])
        self.told("___", (0, 3), 1, [1, 1, 1])

    def test_blanks_behind_which_something_stands(self):
        self.told("B_pB", (0, 3), 0, [1, 1, 1])
        self.told("__BB", (0, 3), 1, [1, 1, 1])
        self.told("B_B_B", (0, 4), 0, [1, 1, 1, 0])
        self.told("fF_oB", (0, 4), 0, [0, 2, 2, 0])

    def test_the_base_handed_in_and_left_out(self):
        text = spelled("BF_F")
        self.assertEqual(row_levels(self.book, text, (0, 3)), [1, 2, 1])
        self.assertEqual(row_levels(self.book, text, (0, 3), None), [1, 2, 1])
        self.assertEqual(row_levels(self.book, text, (0, 3), 0), [1, 0, 0])
        self.assertEqual(row_levels(self.book, text, (0, 3), base=5), [5, 6, 5])
        self.assertEqual(row_levels(self.book, text, (0, 3), base=60), [61, 60, 60])
        self.assertEqual(row_levels(self.book, spelled("F_"), (1, 2)), [0])
        # The base is that of the whole text, not that of the row.
        self.assertEqual(row_levels(self.book, spelled("BF_"), (1, 3)), [2, 1])

    def test_the_most_handed_in_and_left_out(self):
        text = spelled("f" * 11 + "F_F")
        self.assertEqual(row_levels(self.book, text, (11, 14), 0), [20, 20, 20])
        self.assertEqual(row_levels(self.book, text, (11, 13), 0, 60), [22, 0])
        self.assertEqual(row_levels(self.book, text, (11, 13), 1, most=0), [2, 1])


class RowShown(Rows):
    def told(self, letters, row, base, wanted, most=20):
        told = row_shown(self.book, spelled(letters), row, base, most)
        self.assertEqual("".join(LETTERS_OF[sign] for whole in told for sign in whole), wanted, (letters, row))
        self.assertEqual({type(thing) for thing in told} - {list}, set())

    def test_without_anything(self):
        self.told("", (0, 0), 0, "")
        self.told("FB", (1, 1), 0, "")
        self.assertEqual(row_shown(self.book, [], (0, 0)), [])

    def test_the_order(self):
        self.told("FB_pB", (0, 5), 0, "FBp_B")
        self.told("F[pB", (0, 4), 0, "F[pB")
        self.told("FBNN", (0, 4), 0, "FNNB")
        self.told("FB_BF", (0, 5), 0, "FB_BF")
        self.told("BN_NF", (0, 5), 1, "NF_NB")

    def test_marks_stay_behind_their_base(self):
        self.assertEqual(row_shown(self.book, [BACK, LOW, BLANK, HIGH, BACK, HIGH, LOW], (0, 3), 1),
                         [[BACK, HIGH, LOW], [BLANK, HIGH], [BACK, LOW]])

    def test_mates_at_odd_levels(self):
        self.told("B(B)B", (0, 5), 1, "B(B)B")
        self.told("[F", (0, 2), 1, "F]")
        self.told("B(N]B", (0, 5), 0, "B[N)B")
        self.told("()", (0, 2), 1, "()")
        self.told(")(", (0, 2), 1, ")(")

    def test_mates_at_even_levels(self):
        self.told("F(F)[", (0, 5), 0, "F(F)[")
        self.told("F(F)B", (0, 5), 1, "BF(F)")
        self.told("]F", (0, 2), 2, "]F")

    def test_mates_with_marks_behind_them(self):
        self.assertEqual(row_shown(self.book, [OPEN, LOW, HIGH, BACK, OTHER_SHUT, HIGH], (0, 3), 1),
                         [[OTHER_OPEN, HIGH], [BACK], [SHUT, LOW, HIGH]])
        self.assertEqual(row_shown(self.book, [OPEN, LOW, FORE], (0, 2), 0), [[OPEN, LOW], [FORE]])

    def test_whole_signs_without_a_base(self):
        self.assertEqual(row_shown(self.book, [LOW, HIGH, BACK], (0, 2), 1), [[BACK], [LOW, HIGH]])

    def test_wholes_are_not_written_out(self):
        self.assertEqual(row_shown(self.book, [12, LOW, 21], (0, 2), 1), [[21], [12, LOW]])

    def test_blanks_at_the_end_are_seen_at_the_end_of_the_base(self):
        self.told("FB_B", (0, 3), 0, "FB_")
        self.told("BF_F", (0, 3), 1, "_FB")

    def test_the_base_and_the_most_left_out(self):
        text = spelled("BfF(")
        self.assertEqual(row_shown(self.book, text, (0, 4)), row_shown(self.book, text, (0, 4), 1, 20))
        self.assertEqual(row_shown(self.book, text, (0, 4), None), row_shown(self.book, text, (0, 4), base=1))
        self.assertNotEqual(row_shown(self.book, text, (0, 4)), row_shown(self.book, text, (0, 4), 1, most=1))
        self.assertNotEqual(row_shown(self.book, text, (0, 4)), row_shown(self.book, text, (0, 4), 0))


class All(Rows):
    def test_all_rows_of_all_small_texts(self):
        for text in sample.all_texts(spelled("FB_(N"), 4):
            for row in all_rows(len(text)):
                self.by_the_words(text, row)

    def test_longer_texts(self):
        texts = sample.spelled_texts(150, 30, 36, "FFBBNN___p'fboo()[]")
        for text in texts:
            rows = cut_rows(self.book, text, 7) + [(0, len(wholes_of(self.book, text)))]
            for row in rows:
                for base, most in ((None, 20), (0, 3), (1, 2), (60, 60)):
                    self.by_the_words(text, row, base, most)

    def test_two_hundred_signs(self):
        text = spelled("FBN_p'fb(]") * 20
        number = len(wholes_of(self.book, text))
        for row in ((0, number), (3, number - 1), (number, number), (17, 90)):
            self.by_the_words(text, row, None, 60)

    def test_each_whole_sign_stands_just_once_and_the_levels_lead_back(self):
        for text in sample.spelled_texts(150, 30, 38, "FBN_pfbo'"):
            wholes = wholes_of(self.book, text)
            for row in cut_rows(self.book, text, 6):
                shown = row_shown(self.book, text, row)
                levels = row_levels(self.book, text, row)
                seen = [levels[k] for k in order_of(levels)]
                self.assertEqual(sorted(shown), sorted(wholes[row[0]:row[1]]))
                self.assertEqual([shown[k] for k in order_of(seen)], wholes[row[0]:row[1]])

    def test_the_one_ahead_is_seen_at_the_left_where_the_least_level_is_even(self):
        # Each sign of this text is told apart.
        kinds = ("fore", "back", "num", "blank", "forein", "backin", "out")
        book = Book([(k, kinds[k % 7], 0) for k in range(40)], [], [])
        for text in ([(k * 9) % 40 for k in range(40)], [(k * 23) % 40 for k in range(40)], list(range(40))):
            for row in cut_rows(book, text, 15):
                levels = row_levels(book, text, row)
                shown = [whole[0] for whole in row_shown(book, text, row)]
                for one in range(row[0], row[1]):
                    for other in range(one + 1, row[1]):
                        even = min(levels[one - row[0]:other - row[0] + 1]) % 2 == 0
                        self.assertEqual(shown.index(text[one]) < shown.index(text[other]), even)

    def test_a_text_and_both_its_forms_have_the_same_rows_and_orders(self):
        book = Book(sample.form_signs(), sample.mates(), sample.form_joins())
        for text in sample.mixed_texts(150, 30, 39):
            forms = (text, long_form(book, text), short_form(book, text))
            for row in cut_rows(book, text, 5):
                levels = [row_levels(book, form, row) for form in forms]
                self.assertEqual(levels, [levels[0]] * 3)
                shown = [[long_form(book, whole) for whole in row_shown(book, form, row)] for form in forms]
                self.assertEqual(shown, [shown[0]] * 3)


class WrongRows(Rows):
    def refused(self, text, row):
        for function in (row_levels, row_shown):
            kept = list(text)
            self.refuses(NoPlace, function, self.book, text, row)
            self.assertEqual(text, kept)

    def test_all_rows_of_small_numbers(self):
        for letters in ("", "F", "F'B", "'F_'B'"):
            text = spelled(letters)
            number = len(wholes_of(self.book, text))
            for start in range(-3, 7):
                for end in range(-3, 7):
                    if 0 <= start <= end <= number:
                        self.assertEqual(len(row_levels(self.book, text, (start, end))), end - start)
                        self.assertEqual(len(row_shown(self.book, text, (start, end))), end - start)
                    else:
                        self.refused(text, (start, end))

    def test_great_numbers(self):
        for row in ((0, GREAT), (GREAT, GREAT), (-GREAT, 1), (0, 10 ** 5000), (-(10 ** 5000), 0), (GREAT, 0)):
            self.refused(spelled("FB"), row)

    def test_marks_are_no_places(self):
        self.refused(spelled("F''"), (0, 2))
        self.refused(spelled("''"), (0, 2))

    def test_things_that_are_no_whole_numbers(self):
        for k, thing in enumerate(NO_WHOLE_NUMBERS):
            with self.subTest(k=k):
                self.refused(spelled("FB"), (thing, 1))
                self.refused(spelled("FB"), (0, thing))
                self.refused(spelled("FB"), (thing, thing))

    def test_things_that_are_no_rows(self):
        for k, thing in enumerate(NO_SIGNS + [0, 1, [0, 1], (0,), (0, 1, 2), "01", {0: 0, 1: 1}]):
            with self.subTest(k=k):
                self.refused(spelled("FB"), thing)


if __name__ == "__main__":
    unittest.main()
