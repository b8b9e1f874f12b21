"""Nothing that is handed in to the functions that take a book is changed, and what they tell is the asker's own."""

import copy
import unittest

import sample
from bothhands.books import Book
from bothhands.errors import HandsError
from bothhands.forms import long_form, short_form
from bothhands.levels import levels_of
from bothhands.looks import compared, found_at, part_of, replaced, same_text
from bothhands.nests import nests_of, own_base
from bothhands.rows import cut_rows, row_levels, row_shown
from bothhands.seams import long_together, seam_of, together
from bothhands.steps import step_done, way_to
from sample import BACKIN, FOREIN, GREAT, M1, M2, M3, N1, OPEN, OUT

ASKED = [
    (long_form, [12, M1, 22, M3, M1]), (long_form, [10, M1]), (long_form, []), (long_form, [M1, M2]),
    (short_form, [10, M2, M1, 22]), (short_form, [12, N1]), (short_form, []), (short_form, [M1]),
    (step_done, [10, M1, M2], ("turn", 1)), (step_done, [12], ("open", 0)), (step_done, [11, M2], ("join", 0)),
    (way_to, [13, M1, 20], [11, M2, 20]), (way_to, [12], [12]), (way_to, [], []), (way_to, [207], [207]),
    (together, [20, 15], [M1, 20]), (together, [11], []), (together, [], [11]), (together, [], []),
    (long_together, [10, M2], [M1, 20]), (long_together, [10], []), (long_together, [], [M1, 10]),
    (long_together, [], []),
    (nests_of, [FOREIN, BACKIN, OUT, M1, OUT, OUT, BACKIN], 0), (nests_of, [], 1), (nests_of, [FOREIN, M1], 0, 0),
    (levels_of, [20, M1, 30, FOREIN, 10, OPEN, 0]), (levels_of, [], 1), (levels_of, [20, 10], 0, 0),
    (cut_rows, [20, M1, 0, 10], 3), (cut_rows, [], 1), (cut_rows, [10, 20], 2),
    (row_levels, [20, 10, 0, M1], (0, 3)), (row_levels, [10, 20], (1, 1), 0, 3), (row_levels, [], (0, 0)),
    (row_shown, [20, M1, OPEN, M2, 30, 0], (0, 4), 1), (row_shown, [10, 20], (0, 0)), (row_shown, [], (0, 0)),
    (found_at, [10, 20, 11], [10, M1]), (found_at, [], [10]), (found_at, [10], [10]),
    (replaced, [10, 20, 10], [10], [30, M1]), (replaced, [10], [20], [10]), (replaced, [10], [10], [20]),
    (replaced, [], [10], [20]), (replaced, [10], [10], []),
    (part_of, [10, M2, M1, 20], 0, 1), (part_of, [10, 20], 0, 2), (part_of, [10], 1, 1), (part_of, [], 0, 0),
]
NOT_LISTS = [
    (seam_of, [10, M1], [M1, 10]), (seam_of, [], []), (own_base, [20, M1]), (own_base, [FOREIN, 10, OUT]),
    (way_to, [10], [20]), (same_text, [12, M1], [10, M2, M1, M1]), (same_text, [], []), (same_text, [10], [20]),
    (compared, [12, M1], [10, M2, M1, M1]), (compared, [], [10]), (compared, [M2, M1], [M1]),
]
REFUSED = [
    (step_done, [10, M1], ("turn", 0)), (step_done, [10], ("open", 0)), (step_done, [10, N1], ("join", 0)),
    (step_done, [], ("open", 3)), (cut_rows, [10, M2, M1], 0), (row_levels, [10, M2, M1], (0, 2)),
    (row_shown, [10, M2, M1], (1, 0)), (found_at, [10, M2, M1], []), (replaced, [10, M2, M1], [], [20, M2, M1]),
    (part_of, [10, M2, M1], 0, 2),
]


class ToldLists(unittest.TestCase):
    def setUp(self):
        self.book = Book(sample.form_signs(), sample.mates(), sample.form_joins())

    def all_of_the_book(self):
        signs = list(range(210)) + [999, GREAT, GREAT - 1]
        each = [(self.book.kind(s), self.book.rank(s), self.book.mate(s), self.book.parts(s)) for s in signs]
        return each, [self.book.joined(base, mark) for base in signs for mark in sample.RANKS]

    def test_what_is_handed_in_stays_as_it_was(self):
        before = self.all_of_the_book()
        for function, *handed in ASKED + NOT_LISTS:
            kept = copy.deepcopy(handed)
            function(self.book, *handed)
            self.assertEqual(handed, kept)
        self.assertEqual(self.all_of_the_book(), before)

    def test_what_is_refused_stays_as_it_was(self):
        for function, *handed in REFUSED:
            kept = copy.deepcopy(handed)
            with self.assertRaises(HandsError):
                function(self.book, *handed)
            self.assertEqual(handed, kept)

    def test_what_is_told_is_a_new_list(self):
        for function, *handed in ASKED:
            told = function(self.book, *handed)
            self.assertIs(type(told), list)
            self.assertIsNot(told, function(self.book, *handed))
            for thing in handed:
                self.assertIsNot(told, thing)

    def test_a_told_list_changed_by_the_asker_changes_nothing(self):
        for function, *handed in ASKED:
            kept = copy.deepcopy(handed)
            told = function(self.book, *handed)
            before = copy.deepcopy(told)
            for thing in told:
                if isinstance(thing, list):
                    thing.append(7)
            told.reverse()
            told.append(7)
            self.assertEqual(handed, kept)
            self.assertEqual(function(self.book, *handed), before)
            told.clear()
            self.assertEqual(function(self.book, *handed), before)

    def test_what_was_told_stays_when_the_text_is_changed_or_more_is_asked(self):
        for function, *handed in ASKED:
            told = function(self.book, *copy.deepcopy(handed))
            before = copy.deepcopy(told)
            changed = copy.deepcopy(handed)
            again = function(self.book, *changed)
            for thing in changed:
                if isinstance(thing, list):
                    thing.reverse()
                    thing.append(20)
                    thing.clear()
            for other, *others in ASKED + NOT_LISTS:
                other(self.book, *copy.deepcopy(others))
            self.assertEqual((told, again), (before, before))

    def test_one_list_handed_in_twice(self):
        text = [10, M1]
        self.assertEqual(way_to(self.book, text, text), [])
        self.assertEqual(long_together(self.book, text, text), [10, M1, 10, M1])
        self.assertEqual(replaced(self.book, text, text, text), [10, M1])
        self.assertEqual(found_at(self.book, text, text), [0])
        marks = [M1]
        self.assertEqual(together(self.book, marks, marks), [M1, M1])
        self.assertEqual((text, marks), ([10, M1], [M1]))


if __name__ == "__main__":
    unittest.main()
