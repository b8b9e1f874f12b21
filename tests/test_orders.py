import itertools
import random
import unittest

from bothhands.orders import order_of


def order_by_the_words(levels):
    order = list(range(len(levels)))
    for k in range(max(levels, default=0), 0, -1):
        start = 0
        while start < len(order):
            end = start
            while end < len(order) and levels[order[end]] >= k:
                end += 1
            order[start:end] = order[start:end][::-1]
            start = end + 1
    return order


def order_by_least_levels(levels):
    # At the left of a thing are seen: those ahead with an even least level up to it, and those behind with an odd one.
    order = [None] * len(levels)
    for k, level in enumerate(levels):
        ahead = [least % 2 == 0 for least in itertools.accumulate(reversed(levels[:k]), min, initial=level)][1:]
        behind = [least % 2 == 1 for least in itertools.accumulate(levels[k + 1:], min, initial=level)][1:]
        order[sum(ahead) + sum(behind)] = k
    return order


class Orders(unittest.TestCase):
    def told(self, levels, wanted):
        told = order_of(levels)
        self.assertEqual(told, wanted)
        self.assertIs(type(told), list)
        self.assertEqual({type(thing) for thing in told}, {int} if wanted else set())

    def by_the_words(self, levels):
        told = order_of(levels)
        self.assertEqual(told, order_by_the_words(levels))
        self.assertEqual(told, order_by_least_levels(levels))
        self.assertEqual(sorted(told), list(range(len(levels))))
        seen = [levels[thing] for thing in told]
        self.assertEqual([told[k] for k in order_of(seen)], list(range(len(levels))))

    def test_no_things(self):
        self.told([], [])

    def test_one_thing(self):
        for level in (0, 1, 2, 99, 100):
            self.told([level], [0])

    def test_levels_of_0_alone(self):
        self.told([0, 0, 0, 0], [0, 1, 2, 3])

    def test_levels_alike(self):
        self.told([1, 1, 1], [2, 1, 0])
        self.told([2, 2, 2], [0, 1, 2])
        self.told([99, 99], [1, 0])
        self.told([100, 100], [0, 1])

    def test_runs(self):
        self.told([0, 1, 1, 0, 1, 1, 1, 0], [0, 2, 1, 3, 6, 5, 4, 7])
        self.told([1, 1, 0], [1, 0, 2])
        self.told([0, 1, 1], [0, 2, 1])

    def test_runs_within_runs(self):
        self.told([0, 1, 2, 2, 1, 0], [0, 4, 2, 3, 1, 5])
        self.told([1, 2, 2, 1, 2, 2, 1], [6, 4, 5, 3, 1, 2, 0])
        self.told([0, 2, 3, 3, 2, 1], [0, 5, 1, 3, 2, 4])
        self.told([2, 3, 4, 4, 3, 2], [0, 4, 2, 3, 1, 5])

    def test_levels_with_none_between(self):
        self.told([0, 2, 2, 0], [0, 1, 2, 3])
        self.told([0, 3, 3, 0], [0, 2, 1, 3])
        self.told([1, 100, 100, 1], [3, 1, 2, 0])
        self.told([0, 99, 99, 100, 100, 0], [0, 3, 4, 2, 1, 5])

    def test_all_small_rows(self):
        for length in range(7):
            for levels in itertools.product(range(4), repeat=length):
                self.by_the_words(list(levels))

    def test_levels_from_0_to_100(self):
        self.by_the_words(list(range(101)))
        self.by_the_words(list(range(100, -1, -1)))
        self.by_the_words([0, 100] * 50)
        chosen = random.Random(31)
        for number in range(100):
            greatest = chosen.choice([1, 2, 5, 20, 62, 100])
            self.by_the_words([chosen.randrange(greatest + 1) for k in range(chosen.randrange(60))])

    def test_three_hundred_things(self):
        chosen = random.Random(32)
        self.by_the_words([chosen.randrange(101) for k in range(300)])
        self.by_the_words([chosen.randrange(60, 63) for k in range(300)])

    def test_the_least_level_between_two_things(self):
        chosen = random.Random(33)
        for number in range(60):
            levels = [chosen.randrange(6) for k in range(chosen.randrange(20))]
            order = order_of(levels)
            for one in range(len(levels)):
                for other in range(one + 1, len(levels)):
                    even = min(levels[one:other + 1]) % 2 == 0
                    self.assertEqual(order.index(one) < order.index(other), even)

    def test_nothing_is_changed(self):
        levels = [0, 1, 2, 1]
        told = order_of(levels)
        self.assertEqual(levels, [0, 1, 2, 1])
        self.assertIsNot(order_of(levels), told)
        told.append(7)
        told[0] = 9
        self.assertEqual(order_of(levels), [0, 3, 2, 1])
        kept = order_of(levels)
        levels.clear()
        self.assertEqual(kept, [0, 3, 2, 1])
        order_of([]).append(1)
        self.assertEqual(order_of([]), [])


if __name__ == "__main__":
    unittest.main()
