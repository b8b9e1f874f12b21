import inspect
import unittest

from bothhands.books import Book
from bothhands.wholes import kinds_of, wholes_of


class Interface(unittest.TestCase):
    def test_the_names_of_arguments(self):
        told = [
            (Book, ["signs", "mates", "joins"]), (Book.kind, ["self", "sign"]), (Book.rank, ["self", "sign"]),
            (Book.mate, ["self", "sign"]), (Book.parts, ["self", "sign"]), (Book.joined, ["self", "base", "mark"]),
            (wholes_of, ["book", "text"]), (kinds_of, ["book", "text"]),
        ]
        for function, names in told:
            with self.subTest(function=function):
                self.assertEqual(list(inspect.signature(function).parameters), names)

    def test_the_kinds_of_what_is_told(self):
        book = Book(signs=[(5, "mark", 1)], mates=[(1, 2)], joins=[(3, 4, 5)])
        self.assertIs(type(book.kind(sign=5)), str)
        self.assertIs(type(book.rank(sign=5)), int)
        self.assertIs(type(book.mate(sign=1)), int)
        self.assertIs(type(book.parts(sign=3)), tuple)
        self.assertIs(type(book.joined(base=4, mark=5)), int)
        wholes = wholes_of(book=book, text=[1, 5])
        self.assertEqual((type(wholes), type(wholes[0])), (list, list))
        self.assertIs(type(kinds_of(book=book, text=[1, 5])), list)


if __name__ == "__main__":
    unittest.main()
