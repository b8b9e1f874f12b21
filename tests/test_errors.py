import unittest

from bothhands.errors import HandsError, NoBook, NoPlace, NoStep, NoWhat, NoWidth

REFUSALS = (NoBook, NoStep, NoWidth, NoPlace, NoWhat)


class Errors(unittest.TestCase):
    def test_hands_error_is_a_value_error(self):
        self.assertTrue(issubclass(HandsError, ValueError))

    def test_each_refusal_is_taken_as_hands_error_and_value_error(self):
        for refusal in REFUSALS:
            for taken in (refusal, HandsError, ValueError):
                with self.subTest(refusal=refusal, taken=taken):
                    with self.assertRaises(taken):
                        raise refusal("words")

    def test_no_refusal_stands_under_another_one(self):
        for one in REFUSALS:
            self.assertFalse(issubclass(HandsError, one))
            for other in REFUSALS:
                with self.subTest(one=one, other=other):
                    self.assertEqual(issubclass(one, other), one is other)


if __name__ == "__main__":
    unittest.main()
