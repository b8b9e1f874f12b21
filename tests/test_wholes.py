import itertools
import unittest

import sample
from bothhands.books import Book
from bothhands.wholes import kinds_of, wholes_of


def cut_by_numbers(book, text):
    # By the words of the document: a whole sign begins at each base, and at the text's beginning.
    starts = [k for k in range(len(text)) if k == 0 or book.kind(text[k]) != "mark"]
    return [text[start:end] for start, end in zip(starts, starts[1:] + [len(text)])]


class Wholes(unittest.TestCase):
    def setUp(self):
        self.book = Book(sample.signs(), sample.mates(), sample.joins())

    def told(self, text):
        return wholes_of(self.book, text), kinds_of(self.book, text)

    def test_a_text_without_signs(self):
        self.assertEqual(self.told([]), ([], []))

    def test_bases_alone(self):
        self.assertEqual(self.told([10, 10, 20]), ([[10], [10], [20]], ["fore", "fore", "back"]))

    def test_a_base_with_marks(self):
        self.assertEqual(self.told([30, 41, 40, 40, 20, 40]), ([[30, 41, 40, 40], [20, 40]], ["num", "back"]))

    def test_marks_alone_are_one_plain_whole_sign(self):
        self.assertEqual(self.told([40]), ([[40]], ["plain"]))
        self.assertEqual(self.told([41, 40, 41]), ([[41, 40, 41]], ["plain"]))

    def test_a_text_that_begins_with_marks(self):
        self.assertEqual(self.told([40, 41, 20, 40, 10]), ([[40, 41], [20, 40], [10]], ["plain", "back", "fore"]))

    def test_signs_that_the_book_does_not_tell(self):
        self.assertEqual(self.told([999, 40, sample.GREAT - 1]), ([[999, 40], [sample.GREAT - 1]], ["plain", "plain"]))

    def test_a_book_that_tells_nothing(self):
        book = Book([], [], [])
        self.assertEqual(wholes_of(book, [40, 0, 41]), [[40], [0], [41]])
        self.assertEqual(kinds_of(book, [40, 0, 41]), ["plain", "plain", "plain"])

    def test_a_sign_that_is_a_whole_of_a_join_is_left_as_it_is(self):
        self.assertEqual(self.told([12, 40, 11]), ([[12, 40], [11]], ["fore", "fore"]))

    def test_the_kind_of_each(self):
        bases = [10, 20, 30, 0, 50, 51, 52, 60, 61, 999]
        kinds = ["fore", "back", "num", "blank", "forein", "backin", "out", "open", "shut", "plain"]
        self.assertEqual(self.told(bases), ([[base] for base in bases], kinds))
        text = [sign for base in bases for sign in (base, 41, 40)]
        self.assertEqual(self.told(text), ([[base, 41, 40] for base in bases], kinds))

    def test_all_short_texts(self):
        for length in range(7):
            for signs in itertools.product((10, 40, 999), repeat=length):
                text = list(signs)
                wholes, kinds = self.told(text)
                self.assertEqual(wholes, cut_by_numbers(self.book, text))
                self.assertEqual([sign for whole in wholes for sign in whole], text)
                self.assertEqual(kinds, [{10: "fore", 40: "plain", 999: "plain"}[whole[0]] for whole in wholes])

    def test_a_long_text(self):
        text = ([40, 41] + [10, 40, 41, 20] * 100)[:300]
        wholes, kinds = self.told(text)
        self.assertEqual(wholes, cut_by_numbers(self.book, text))
        self.assertEqual(kinds[:3], ["plain", "fore", "back"])
        self.assertEqual(len(kinds), len(wholes))


if __name__ == "__main__":
    unittest.main()
