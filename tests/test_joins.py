import itertools
import unittest

import sample
from bothhands.books import Book
from bothhands.errors import NoBook

MARK = (5, "mark", 1)


def chain(goings):
    return [(100 + k + 1, 100 + k, 5) for k in range(goings)]


class Joins(unittest.TestCase):
    def test_parts_and_joined(self):
        book = Book(sample.signs(), sample.mates(), sample.joins())
        for whole, base, mark in sample.joins():
            self.assertEqual(book.parts(whole), (base, mark))
            self.assertIsInstance(book.parts(whole), tuple)
            self.assertEqual(book.joined(base, mark), whole)

    def test_none_of_others(self):
        book = Book(sample.signs(), sample.mates(), sample.joins())
        for sign in (sample.FORE, sample.LOW, sample.OPEN, sample.SHUT, sample.FOREIN, sample.UNTOLD, 900):
            self.assertIsNone(book.parts(sign))
        for base, mark in ((sample.FORE, sample.HIGH), (sample.LOW, sample.FORE), (11, sample.LOW),
                           (sample.UNTOLD, sample.LOW), (12, sample.HIGH), (sample.OPEN, sample.SHUT)):
            self.assertIsNone(book.joined(base, mark))

    def test_each_kind_that_may_be_joined(self):
        for kind in ("fore", "back", "num", "blank"):
            book = Book([MARK, (1, kind, 0), (2, kind, 0)], [], [(1, 2, 5)])
            self.assertEqual((book.parts(1), book.joined(2, 5)), ((2, 5), 1))
        book = Book([MARK], [], [(1, 2, 5)])
        self.assertEqual((book.parts(1), book.joined(2, 5)), ((2, 5), 1))

    def test_one_base_with_many_marks_and_one_mark_with_many_bases(self):
        joins = [(1, 10, 5), (2, 10, 6), (3, 11, 5), (4, 11, 6)]
        book = Book([MARK, (6, "mark", 1)], [], joins)
        for whole, base, mark in joins:
            self.assertEqual((book.parts(whole), book.joined(base, mark)), ((base, mark), whole))

    def test_wholes_of_wholes_in_any_order(self):
        joins = [(11, 10, 5), (12, 11, 5), (13, 12, 5), (14, 12, 6)]
        for order in itertools.permutations(joins):
            book = Book([MARK, (6, "mark", 2)], [], list(order))
            for whole, base, mark in joins:
                self.assertEqual((book.parts(whole), book.joined(base, mark)), ((base, mark), whole))

    def test_signs_of_0_and_of_thirty_figures(self):
        great = sample.GREAT
        book = Book([(great - 1, "mark", 1)], [], [(0, great, great - 1)])
        self.assertEqual((book.parts(0), book.joined(great, great - 1)), ((great, great - 1), 0))
        book = Book([(0, "mark", 1)], [], [(great, 1, 0)])
        self.assertEqual((book.parts(great), book.joined(1, 0)), ((1, 0), great))


class Goings(unittest.TestCase):
    def test_up_to_seven_are_taken(self):
        for goings in range(8):
            for joins in (chain(goings), chain(goings)[::-1]):
                book = Book([MARK], [], joins)
                for whole, base, mark in joins:
                    self.assertEqual(book.parts(whole), (base, mark))

    def test_eight_and_more_are_not(self):
        for goings in (8, 9, 14, 40):
            for joins in (chain(goings), chain(goings)[::-1]):
                with self.assertRaises(NoBook):
                    Book([MARK], [], joins)

    def test_many_chains_of_seven(self):
        joins = [(1000 * c + k + 1, 1000 * c + k, 5) for c in range(1, 6) for k in range(7)]
        self.assertEqual(Book([MARK], [], joins).parts(5007), (5006, 5))

    def test_a_fork_counts_each_way_by_itself(self):
        self.assertEqual(Book([MARK, (6, "mark", 1)], [], chain(7) + [(300, 106, 6)]).parts(300), (106, 6))
        with self.assertRaises(NoBook):
            Book([MARK, (6, "mark", 1)], [], chain(7) + [(300, 107, 6)])

    def test_a_round_is_refused(self):
        for length in range(1, 17):
            round_trip = [(100 + k, 100 + (k + 1) % length, 5) for k in range(length)]
            for joins in (round_trip, round_trip[::-1], [(200, 201, 5)] + round_trip, round_trip + [(200, 201, 5)]):
                with self.subTest(length=length), self.assertRaises(NoBook):
                    Book([MARK], [], joins)

    def test_a_way_into_a_round_is_refused(self):
        with self.assertRaises(NoBook):
            Book([MARK, (6, "mark", 1)], [], [(100, 101, 5), (101, 100, 5), (102, 100, 6)])


if __name__ == "__main__":
    unittest.main()
