"""A test case that knows what a refusal is taken as, and as what it isn't."""

import unittest

from bothhands.errors import HandsError, NoBook, NoPlace, NoStep, NoWhat, NoWidth


class Refusing(unittest.TestCase):
    def refuses(self, error, function, *handed):
        with self.assertRaises(error) as caught:
            function(*handed)
        for taken in (HandsError, ValueError):
            self.assertIsInstance(caught.exception, taken)
        for other in (NoBook, NoStep, NoWidth, NoPlace, NoWhat):
            self.assertEqual(isinstance(caught.exception, other), other is error)
