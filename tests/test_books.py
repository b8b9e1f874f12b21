import unittest

import sample
from bothhands.books import Book


class Kinds(unittest.TestCase):
    def test_each_told_kind(self):
        for kind in ("fore", "back", "num", "blank", "forein", "backin", "out"):
            with self.subTest(kind=kind):
                book = Book([(7, kind, 0)], [], [])
                self.assertEqual((book.kind(7), book.rank(7)), (kind, 0))
        book = Book([(7, "mark", 3)], [], [])
        self.assertEqual((book.kind(7), book.rank(7)), ("mark", 3))

    def test_all_kinds_in_one_book(self):
        book = Book(sample.signs(), sample.mates(), sample.joins())
        for sign, kind, rank in sample.signs():
            self.assertEqual((book.kind(sign), book.rank(sign)), (kind, rank))

    def test_mates_are_open_and_shut_of_rank_0(self):
        book = Book([], [(8, 5), (3, 9)], [])
        self.assertEqual([book.kind(sign) for sign in (8, 5, 3, 9)], ["open", "shut", "open", "shut"])
        self.assertEqual([book.rank(sign) for sign in (8, 5, 3, 9)], [0, 0, 0, 0])

    def test_a_sign_told_nowhere_is_plain_of_rank_0(self):
        book = Book(sample.signs(), sample.mates(), sample.joins())
        for sign in (sample.UNTOLD, sample.GREAT - 1):
            self.assertEqual((book.kind(sign), book.rank(sign), book.mate(sign)), ("plain", 0, None))

    def test_a_sign_told_in_joins_alone_is_plain(self):
        book = Book(sample.signs(), [], [(500, 501, sample.LOW)])
        self.assertEqual((book.kind(500), book.kind(501)), ("plain", "plain"))
        self.assertEqual((book.rank(500), book.rank(501)), (0, 0))

    def test_empty_lists(self):
        book = Book([], [], [])
        for sign in (0, 1, sample.GREAT):
            self.assertEqual((book.kind(sign), book.rank(sign)), ("plain", 0))
            self.assertIsNone(book.mate(sign))
            self.assertIsNone(book.parts(sign))
            self.assertIsNone(book.joined(sign, sign))

    def test_signs_of_0_and_of_thirty_figures(self):
        book = Book([(0, "back", 0), (sample.GREAT, "mark", 2)], [(sample.GREAT - 1, 1)], [(2, 3, sample.GREAT)])
        self.assertEqual((book.kind(0), book.kind(sample.GREAT)), ("back", "mark"))
        self.assertEqual((book.mate(sample.GREAT - 1), book.mate(1)), (1, sample.GREAT - 1))
        self.assertEqual(book.joined(3, sample.GREAT), 2)
        book = Book([(5, "mark", 1)], [(0, sample.GREAT)], [])
        self.assertEqual((book.kind(0), book.kind(sample.GREAT)), ("open", "shut"))
        self.assertEqual((book.mate(0), book.mate(sample.GREAT)), (sample.GREAT, 0))


class Ranks(unittest.TestCase):
    def test_ranks_of_marks_from_1_to_thirty_figures(self):
        for rank in (1, 2, 230, 10 ** 29, sample.GREAT):
            self.assertEqual(Book([(7, "mark", rank)], [], []).rank(7), rank)

    def test_marks_may_have_alike_ranks(self):
        book = Book([(7, "mark", 4), (8, "mark", 4)], [], [])
        self.assertEqual((book.rank(7), book.rank(8)), (4, 4))


class Mates(unittest.TestCase):
    def test_both_ways(self):
        book = Book(sample.signs(), sample.mates(), [])
        for first, second in sample.mates():
            self.assertEqual((book.mate(first), book.mate(second)), (second, first))

    def test_none_of_others(self):
        book = Book(sample.signs(), sample.mates(), sample.joins())
        for sign in [told[0] for told in sample.signs()] + [sample.UNTOLD, 900, sample.GREAT]:
            self.assertIsNone(book.mate(sign))


class Sizes(unittest.TestCase):
    def test_the_largest_promised_book(self):
        signs = [(k, "fore", 0) for k in range(60)] + [(k, "mark", k) for k in range(60, 100)]
        mates = [(200 + k, 300 + k) for k in range(40)]
        joins = [(1000 + k, 2000, 60 + k) for k in range(40)]
        book = Book(signs, mates, joins)
        self.assertEqual((book.kind(59), book.rank(99)), ("fore", 99))
        self.assertEqual((book.mate(239), book.mate(339)), (339, 239))
        self.assertEqual((book.parts(1039), book.joined(2000, 99)), ((2000, 99), 1039))

    def test_nothing_is_refused_for_being_somewhat_larger(self):
        signs = [(10 ** 40 + k, "mark", 10 ** 40) for k in range(120)]
        mates = [(200 + k, 300 + k) for k in range(50)]
        joins = [(1000 + k, 2000, 10 ** 40 + k) for k in range(50)]
        book = Book(signs, mates, joins)
        self.assertEqual(book.rank(10 ** 40 + 119), 10 ** 40)
        self.assertEqual((book.mate(249), book.parts(1049)), (349, (2000, 10 ** 40 + 49)))


if __name__ == "__main__":
    unittest.main()
