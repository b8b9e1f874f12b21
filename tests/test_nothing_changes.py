import copy
import unittest

import sample
from bothhands.books import Book
from bothhands.errors import NoBook
from bothhands.wholes import kinds_of, wholes_of

SIGNS = list(range(70)) + [900, 999, sample.GREAT]


def all_told(book):
    each = [(book.kind(s), book.rank(s), book.mate(s), book.parts(s)) for s in SIGNS]
    return each, [book.joined(base, mark) for base in SIGNS for mark in SIGNS]


class NothingChanges(unittest.TestCase):
    def setUp(self):
        self.lists = [sample.signs(), sample.mates(), sample.joins()]
        self.book = Book(*self.lists)

    def test_the_lists_handed_in_stay_as_they_were(self):
        all_told(self.book)
        self.assertEqual(self.lists, [sample.signs(), sample.mates(), sample.joins()])

    def test_lists_that_are_refused_stay_as_they_were(self):
        lists = [sample.signs(), sample.mates(), sample.joins() + [(12, 11, sample.HIGH)]]
        before = copy.deepcopy(lists)
        with self.assertRaises(NoBook):
            Book(*lists)
        self.assertEqual(lists, before)

    def test_lists_changed_afterwards_change_no_book(self):
        before = all_told(self.book)
        self.lists[0][0] = (sample.FORE, "back", 0)
        self.lists[0].append((999, "mark", 3))
        self.lists[1][0] = (900, 901)
        self.lists[2].pop()
        self.assertEqual(all_told(self.book), before)
        for changed in self.lists:
            changed.clear()
        self.assertEqual(all_told(self.book), before)

    def test_books_are_apart(self):
        before = all_told(self.book)
        other = Book([(10, "mark", 7)], [(20, 30)], [(999, 900, 10)])
        self.assertEqual(all_told(self.book), before)
        self.assertEqual((other.kind(10), other.kind(20), other.parts(999)), ("mark", "open", (900, 10)))

    def test_asking_changes_nothing(self):
        before = all_told(self.book)
        wholes_of(self.book, SIGNS)
        kinds_of(self.book, SIGNS)
        self.assertEqual(all_told(self.book), before)

    def test_the_text_stays_and_may_be_changed_afterwards(self):
        text = [40, 10, 41, 20]
        wholes, kinds = wholes_of(self.book, text), kinds_of(self.book, text)
        self.assertEqual(text, [40, 10, 41, 20])
        text[0] = 30
        text.clear()
        self.assertEqual(wholes, [[40], [10, 41], [20]])
        self.assertEqual(kinds, ["plain", "fore", "back"])

    def test_lists_that_were_told_are_the_askers_own(self):
        text = [40, 10, 41, 20]
        wholes, kinds = wholes_of(self.book, text), kinds_of(self.book, text)
        for whole in wholes:
            whole.append(7)
        wholes.append([8])
        kinds[0] = "none"
        kinds.append("more")
        self.assertEqual(text, [40, 10, 41, 20])
        self.assertEqual(wholes_of(self.book, text), [[40], [10, 41], [20]])
        self.assertEqual(kinds_of(self.book, text), ["plain", "fore", "back"])

    def test_lists_of_a_text_without_signs_are_new_ones_too(self):
        wholes_of(self.book, []).append([1])
        kinds_of(self.book, []).append("fore")
        self.assertEqual((wholes_of(self.book, []), kinds_of(self.book, [])), ([], []))

    def test_what_was_told_stays_when_more_is_asked(self):
        wholes, kinds = wholes_of(self.book, [10, 40]), kinds_of(self.book, [10, 40])
        wholes_of(self.book, [20, 30])
        kinds_of(self.book, [20, 30])
        self.assertEqual((wholes, kinds), ([[10, 40]], ["fore"]))


if __name__ == "__main__":
    unittest.main()
