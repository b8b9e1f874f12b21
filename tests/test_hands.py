import itertools
import random
import unittest

from bothhands.errors import NoPlace
from bothhands.hands import passed, place_of, sight_of
from bothhands.orders import order_of
from odd_things import NO_SIGNS, NO_WHOLE_NUMBERS
from refusing import Refusing
from sample import GREAT


def edge_of_place(levels, place, side):
    if side == 0:
        return (place - 1, "end") if place > 0 else ("row", "beginning")
    return (place, "beginning") if place < len(levels) else ("row", "end")


def edge_of_sight(levels, base, gap, hand):
    order = ["row"] + order_of(levels) + ["row"]
    thing = order[gap + hand]
    level = base if thing == "row" else levels[thing]
    # The row's own left end is at the hand's left, that of a thing at its right.
    at_left = (hand == 1) != (thing == "row")
    return thing, "beginning" if at_left == (level % 2 == 0) else "end"


def all_of(levels):
    return [(place, side) for place in range(len(levels) + 1) for side in (0, 1)]


class Hands(unittest.TestCase):
    def both(self, levels, base, place, sight):
        told = sight_of(levels, base, place[0], place[1])
        self.assertEqual(told, sight)
        back = place_of(levels, base, sight[0], sight[1])
        self.assertEqual(back, place)
        for tuples in (told, back):
            self.assertIs(type(tuples), tuple)
            self.assertEqual([type(number) for number in tuples], [int, int])

    def by_the_words(self, levels, base):
        for place in all_of(levels):
            sight = sight_of(levels, base, *place)
            self.assertEqual(edge_of_sight(levels, base, *sight), edge_of_place(levels, *place))
            self.assertEqual(place_of(levels, base, *sight), place)
        for sight in all_of(levels):
            place = place_of(levels, base, *sight)
            self.assertEqual(edge_of_place(levels, *place), edge_of_sight(levels, base, *sight))
            self.assertEqual(sight_of(levels, base, *place), sight)


class PlacesAndSights(Hands):
    def test_rows_without_things(self):
        for base in (0, 2, 60):
            self.both([], base, (0, 0), (0, 0))
            self.both([], base, (0, 1), (0, 1))
        for base in (1, 3, 59):
            self.both([], base, (0, 0), (0, 1))
            self.both([], base, (0, 1), (0, 0))

    def test_things_that_run_forward(self):
        for levels in ([0, 0], [2, 4], [100, 100]):
            self.both(levels, 0, (1, 0), (1, 0))
            self.both(levels, 0, (1, 1), (1, 1))
            self.both(levels, 0, (0, 1), (0, 1))
            self.both(levels, 0, (2, 0), (2, 0))

    def test_things_that_run_backward(self):
        for base in (0, 1):
            self.both([1, 1, 1], base, (0, 1), (3, 0))
            self.both([1, 1, 1], base, (1, 0), (2, 1))
            self.both([1, 1, 1], base, (1, 1), (2, 0))
            self.both([1, 1, 1], base, (2, 0), (1, 1))
            self.both([1, 1, 1], base, (3, 0), (0, 1))

    def test_one_place_has_two_sights(self):
        # Between the first two things, which run apart.
        self.both([0, 1, 1, 0], 0, (1, 0), (1, 0))
        self.both([0, 1, 1, 0], 0, (1, 1), (3, 0))
        self.both([0, 1, 1, 0], 0, (3, 0), (1, 1))
        self.both([0, 1, 1, 0], 0, (3, 1), (3, 1))

    def test_runs_within_runs(self):
        # Seen in the order 0, 4, 2, 3, 1, 5.
        self.both([0, 1, 2, 2, 1, 0], 0, (2, 0), (4, 1))
        self.both([0, 1, 2, 2, 1, 0], 0, (2, 1), (2, 1))
        self.both([0, 1, 2, 2, 1, 0], 0, (4, 0), (4, 0))
        self.both([0, 1, 2, 2, 1, 0], 0, (4, 1), (2, 0))

    def test_the_own_beginning_and_end_of_the_row(self):
        for levels in ([0], [1], [0, 1, 2], [2, 1, 1, 0]):
            number = len(levels)
            for base in (0, 2, 60):
                self.both(levels, base, (0, 0), (0, 0))
                self.both(levels, base, (number, 1), (number, 1))
            for base in (1, 3, 59):
                self.both(levels, base, (0, 0), (number, 1))
                self.both(levels, base, (number, 1), (0, 0))

    def test_all_small_rows(self):
        for length in range(6):
            for levels in itertools.product(range(4), repeat=length):
                self.by_the_words(list(levels), length % 2)

    def test_levels_from_0_to_100_and_bases_from_0_to_60(self):
        chosen = random.Random(41)
        self.by_the_words(list(range(0, 101, 5)), 0)
        self.by_the_words(list(range(100, -1, -5)), 1)
        for base in range(61):
            greatest = chosen.choice([1, 2, 5, 62, 100])
            self.by_the_words([chosen.randrange(greatest + 1) for k in range(chosen.randrange(8))], base)

    def test_nothing_handed_in_is_changed(self):
        levels = [0, 1, 2, 1]
        for function in (sight_of, place_of):
            function(levels, 0, 2, 1)
        passed(levels, 0, 2, 1, 1)
        self.assertEqual(levels, [0, 1, 2, 1])


class Passed(Hands):
    def told(self, levels, base, place, step, wanted):
        told = passed(levels, base, place[0], place[1], step)
        self.assertEqual(told, wanted)
        self.assertIs(type(told), type(wanted))

    def test_forward(self):
        self.told([0, 0], 0, (0, 1), 1, (1, 0))
        self.told([0, 0], 0, (1, 0), 1, (2, 0))
        self.told([0, 0], 0, (1, 1), 1, (2, 0))
        self.told([0, 0], 0, (2, 0), -1, (1, 1))
        self.told([0, 0], 0, (1, 1), -1, (0, 1))

    def test_backward(self):
        self.told([1, 1], 1, (0, 1), -1, (1, 0))
        self.told([1, 1], 1, (1, 0), -1, (2, 0))
        self.told([1, 1], 1, (2, 0), 1, (1, 1))
        self.told([1, 1], 1, (1, 1), 1, (0, 1))

    def test_both(self):
        self.told([0, 1, 1, 0], 0, (1, 0), 1, (2, 1))
        self.told([0, 1, 1, 0], 0, (1, 1), 1, (4, 0))
        self.told([0, 1, 1, 0], 0, (1, 1), -1, (2, 0))

    def test_at_the_end_of_the_row(self):
        self.told([0, 0], 0, (2, 0), 1, None)
        self.told([0, 0], 0, (2, 1), 1, None)
        self.told([0, 0], 0, (0, 0), -1, None)
        self.told([0, 0], 0, (0, 1), -1, None)
        self.told([1, 1], 1, (0, 1), 1, None)
        self.told([1, 1], 1, (2, 0), -1, None)

    def test_from_the_own_beginning_and_end_of_the_row(self):
        self.told([0, 0], 0, (0, 0), 1, (1, 0))
        self.told([0, 0], 0, (2, 1), -1, (1, 1))
        self.told([0, 0], 1, (0, 0), 1, None)
        self.told([0, 0], 1, (0, 0), -1, (1, 1))
        self.told([0, 0], 1, (2, 1), 1, (1, 0))

    def test_without_things(self):
        for base in (0, 1):
            for side in (0, 1):
                for step in (1, -1):
                    self.told([], base, (0, side), step, None)

    def goes_through(self, levels, base, step):
        order = order_of(levels) if step == 1 else order_of(levels)[::-1]
        place = place_of(levels, base, *((0, 0) if step == 1 else (len(levels), 1)))
        seen, places = [], []
        while place is not None:
            places.append(place)
            place = passed(levels, base, *place, step)
            if place is not None:
                seen.append(edge_of_place(levels, *place)[0])
        self.assertEqual(seen, order)
        # Back the same way: each place's gap is met again.
        gaps = [sight_of(levels, base, *at)[0] for at in places]
        self.assertEqual(gaps, list(range(len(levels) + 1))[::step])
        for at, gap in zip(places, gaps):
            back = passed(levels, base, *at, -step)
            self.assertEqual(None if back is None else sight_of(levels, base, *back)[0],
                             gap - step if 0 <= gap - step <= len(levels) else None)

    def test_each_thing_is_passed_once_to_the_right_and_to_the_left(self):
        chosen = random.Random(42)
        rows = [list(levels) for length in range(5) for levels in itertools.product(range(3), repeat=length)]
        rows += [[chosen.randrange(101) for k in range(chosen.randrange(12))] for number in range(20)]
        for levels in rows:
            for base in (0, 1):
                for step in (1, -1):
                    self.goes_through(levels, base, step)

    def test_from_each_gap(self):
        chosen = random.Random(43)
        for number in range(40):
            levels = [chosen.randrange(5) for k in range(chosen.randrange(8))]
            order = order_of(levels)
            for place in all_of(levels):
                gap = sight_of(levels, 1, *place)[0]
                for step in (1, -1):
                    told = passed(levels, 1, *place, step)
                    if 0 <= gap + step <= len(levels):
                        thing = order[min(gap, gap + step)]
                        self.assertEqual(edge_of_place(levels, *told)[0], thing)
                        self.assertEqual(sight_of(levels, 1, *told)[0], gap + step)
                    else:
                        self.assertIsNone(told)


class Wrong(Refusing):
    def refused(self, function, *handed):
        self.refuses(NoPlace, function, *handed)

    def test_places_and_gaps_that_are_none(self):
        for levels in ([], [0], [0, 1, 2]):
            beyond = [len(levels) + 1, len(levels) + 2, GREAT, 10 ** 5000]
            for thing in NO_SIGNS + beyond:
                for side in (0, 1):
                    self.refused(sight_of, levels, 0, thing, side)
                    self.refused(place_of, levels, 0, thing, side)
                    self.refused(passed, levels, 0, thing, side, 1)
                    self.refused(passed, levels, 0, thing, side, -1)

    def test_sides_and_hands_that_are_none(self):
        for levels in ([], [0], [0, 1, 2]):
            for thing in NO_SIGNS + [2, 3, GREAT, 10 ** 5000]:
                for place in range(len(levels) + 1):
                    self.refused(sight_of, levels, 1, place, thing)
                    self.refused(place_of, levels, 1, place, thing)
                    self.refused(passed, levels, 1, place, thing, 1)

    def test_steps_that_are_none(self):
        for levels in ([], [0], [0, 1, 2]):
            for thing in NO_WHOLE_NUMBERS + [0, 2, -2, 3, GREAT, -GREAT, 10 ** 5000, -(10 ** 5000)]:
                for place in range(len(levels) + 1):
                    self.refused(passed, levels, 0, place, 0, thing)
                    self.refused(passed, levels, 0, place, 1, thing)

    def test_all_at_once(self):
        for thing in NO_SIGNS:
            self.refused(sight_of, [0, 1], 0, thing, thing)
            self.refused(place_of, [0, 1], 0, thing, thing)
        for thing in NO_WHOLE_NUMBERS:
            self.refused(passed, [0, 1], 0, thing, thing, thing)


if __name__ == "__main__":
    unittest.main()
