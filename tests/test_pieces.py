import itertools
import random
import unittest

from bothhands.errors import NoPlace
from bothhands.orders import order_of
from bothhands.pieces import seen_pieces, told_pieces
from odd_things import NO_SIGNS, NO_WHOLE_NUMBERS
from refusing import Refusing
from sample import GREAT


def all_spans(number):
    return [(start, end) for start in range(number + 1) for end in range(start, number + 1)]


class Pieces(unittest.TestCase):
    def told(self, function, levels, start, end, wanted):
        told = function(levels, start, end)
        self.assertEqual(told, wanted)
        self.assertIs(type(told), list)
        self.assertEqual({type(piece) for piece in told}, {tuple} if wanted else set())

    def are_pieces_of(self, told, wanted, levels):
        # What 24 says of pieces, and that they are made of the numbers that are wanted.
        self.assertEqual(sorted(wanted), [k for start, end in told for k in range(start, end)])
        self.assertTrue(all(start < end for start, end in told))
        self.assertTrue(all(one[1] < other[0] for one, other in zip(told, told[1:])), told)
        self.assertLessEqual(len(told), 2 * max(levels, default=0) + 1)

    def by_the_words(self, levels):
        order = order_of(levels)
        for start, end in all_spans(len(levels)):
            self.are_pieces_of(seen_pieces(levels, start, end),
                               [gap for gap, thing in enumerate(order) if start <= thing < end], levels)
            self.are_pieces_of(told_pieces(levels, start, end), order[start:end], levels)


class ThePieces(Pieces):
    def test_of_no_things(self):
        for function in (seen_pieces, told_pieces):
            self.told(function, [], 0, 0, [])
            for at in range(4):
                self.told(function, [0, 1, 2], at, at, [])

    def test_of_all_things(self):
        for function in (seen_pieces, told_pieces):
            self.told(function, [0], 0, 1, [(0, 1)])
            self.told(function, [0, 1, 2, 1, 0], 0, 5, [(0, 5)])

    def test_seen(self):
        self.told(seen_pieces, [0, 0, 0], 1, 3, [(1, 3)])
        self.told(seen_pieces, [1, 1, 1], 0, 1, [(2, 3)])
        self.told(seen_pieces, [0, 1, 1, 1], 0, 2, [(0, 1), (3, 4)])
        # Seen in the order 0, 4, 2, 3, 1, 5.
        self.told(seen_pieces, [0, 1, 2, 2, 1, 0], 0, 3, [(0, 1), (2, 3), (4, 5)])
        self.told(seen_pieces, [0, 1, 2, 2, 1, 0], 3, 6, [(1, 2), (3, 4), (5, 6)])
        self.told(seen_pieces, [0, 1, 2, 2, 1, 0], 2, 5, [(1, 4)])

    def test_told(self):
        self.told(told_pieces, [0, 0, 0], 1, 3, [(1, 3)])
        self.told(told_pieces, [1, 1, 1], 0, 1, [(2, 3)])
        self.told(told_pieces, [0, 1, 1, 1], 0, 2, [(0, 1), (3, 4)])
        self.told(told_pieces, [0, 1, 2, 2, 1, 0], 0, 3, [(0, 1), (2, 3), (4, 5)])
        self.told(told_pieces, [0, 1, 2, 2, 1, 0], 3, 6, [(1, 2), (3, 4), (5, 6)])
        self.told(told_pieces, [0, 1, 2, 2, 1, 0], 1, 4, [(2, 5)])

    def test_all_small_rows(self):
        for length in range(6):
            for levels in itertools.product(range(4), repeat=length):
                self.by_the_words(list(levels))

    def test_levels_from_0_to_100(self):
        chosen = random.Random(44)
        for number in range(30):
            greatest = chosen.choice([1, 2, 3, 5, 20, 62, 100])
            self.by_the_words([chosen.randrange(greatest + 1) for k in range(chosen.randrange(12))])

    def test_many_things(self):
        chosen = random.Random(45)
        for greatest in (1, 2, 3):
            levels = [chosen.randrange(greatest + 1) for k in range(300)]
            order = order_of(levels)
            for number in range(20):
                start, end = sorted([chosen.randrange(301), chosen.randrange(301)])
                self.are_pieces_of(seen_pieces(levels, start, end),
                                   [gap for gap, thing in enumerate(order) if start <= thing < end], levels)
                self.are_pieces_of(told_pieces(levels, start, end), order[start:end], levels)

    def test_nothing_is_changed(self):
        for function in (seen_pieces, told_pieces):
            levels = [0, 1, 1, 0]
            told = function(levels, 0, 2)
            self.assertEqual(levels, [0, 1, 1, 0])
            told.append((7, 8))
            told[0] = (9, 9)
            self.assertEqual(function(levels, 0, 2), [(0, 1), (2, 3)])
            kept = function(levels, 0, 2)
            levels.clear()
            self.assertEqual(kept, [(0, 1), (2, 3)])
            function([], 0, 0).append((1, 2))
            self.assertEqual(function([], 0, 0), [])


class Wrong(Refusing):
    def refused(self, levels, start, end):
        for function in (seen_pieces, told_pieces):
            self.refuses(NoPlace, function, levels, start, end)

    def test_spans_of_small_numbers(self):
        for levels in ([], [1], [0, 1, 2, 1]):
            for start in range(-3, 8):
                for end in range(-3, 8):
                    if not 0 <= start <= end <= len(levels):
                        self.refused(levels, start, end)

    def test_great_numbers(self):
        for start, end in ((0, GREAT), (GREAT, GREAT), (-GREAT, 1), (0, 10 ** 5000), (-(10 ** 5000), 1), (GREAT, 0)):
            self.refused([0, 1], start, end)

    def test_things_that_are_no_whole_numbers(self):
        for thing in NO_WHOLE_NUMBERS:
            self.refused([0, 1], thing, 2)
            self.refused([0, 1], 0, thing)
        for thing in NO_SIGNS:
            self.refused([0, 1], thing, thing)


if __name__ == "__main__":
    unittest.main()
