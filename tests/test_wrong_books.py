import unittest

import sample
from bothhands.books import Book
from bothhands.errors import HandsError, NoBook, NoPlace, NoStep, NoWhat, NoWidth
from odd_things import NO_SIGNS, NO_WHOLE_NUMBERS, ODD_THINGS, Raises

NO_KINDS = ODD_THINGS + [
    "", "plain", "open", "shut", "Fore", "FORE", " fore", "fore ", "fores", "for", "marks", "kind", "in", "o",
    0, 1, -1, 10 ** 5000, ["fore"], ("fore",), {"fore": "fore"}, {"mark"},
]


class Wrong(unittest.TestCase):
    def refused(self, signs, mates, joins):
        with self.assertRaises(NoBook) as caught:
            Book(signs, mates, joins)
        return caught.exception

    def refused_signs(self, entry):
        self.refused([entry], [], [])
        self.refused(sample.signs() + [entry], sample.mates(), sample.joins())
        self.refused([entry] + sample.signs(), sample.mates(), sample.joins())

    def refused_mates(self, entry):
        self.refused([], [entry], [])
        self.refused(sample.signs(), sample.mates() + [entry], sample.joins())
        self.refused(sample.signs(), [entry] + sample.mates(), sample.joins())

    def refused_joins(self, entry):
        self.refused(sample.signs(), sample.mates(), [entry])
        self.refused(sample.signs(), sample.mates(), sample.joins() + [entry])
        self.refused(sample.signs(), sample.mates(), [entry] + sample.joins())


class Refusal(Wrong):
    def test_what_the_refusal_is_taken_as(self):
        error = self.refused([(1, "plain", 0)], [], [])
        for taken in (NoBook, HandsError, ValueError):
            self.assertIsInstance(error, taken)
        for other in (NoStep, NoWidth, NoPlace, NoWhat):
            self.assertNotIsInstance(error, other)

    def test_the_sample_itself_is_a_book(self):
        self.assertEqual(Book(sample.signs(), sample.mates(), sample.joins()).kind(10), "fore")


class WrongSigns(Wrong):
    def test_a_sign_that_is_none(self):
        for k, thing in enumerate(NO_SIGNS):
            with self.subTest(k=k):
                self.refused_signs((thing, "fore", 0))
                self.refused_signs((thing, "mark", 1))

    def test_a_sign_told_twice(self):
        for entry in ((10, "fore", 0), (10, "back", 0), (10, "mark", 1)):
            self.refused([(10, "fore", 0), entry], [], [])
        self.refused([(10, "mark", 1), (10, "mark", 1)], [], [])
        self.refused([(10, "mark", 1), (3, "fore", 0), (10, "mark", 2)], [], [])
        self.refused([(sample.GREAT, "fore", 0), (0, "fore", 0), (10 ** 30 - 1, "fore", 0)], [], [])

    def test_a_kind_that_is_none(self):
        for k, thing in enumerate(NO_KINDS):
            with self.subTest(k=k):
                self.refused_signs((70, thing, 0))
                self.refused_signs((70, thing, 1))

    def test_a_rank_that_is_none(self):
        for k, thing in enumerate(NO_WHOLE_NUMBERS):
            with self.subTest(k=k):
                self.refused_signs((70, "mark", thing))
                self.refused_signs((70, "fore", thing))

    def test_the_rank_of_a_mark(self):
        for rank in (0, -1, -sample.GREAT, -(10 ** 5000)):
            self.refused_signs((70, "mark", rank))

    def test_the_rank_of_all_others(self):
        for kind in ("fore", "back", "num", "blank", "forein", "backin", "out"):
            for rank in (1, 2, -1, sample.GREAT, 10 ** 5000):
                with self.subTest(kind=kind, figures=len(hex(rank))):
                    self.refused_signs((70, kind, rank))

    def test_several_wrong_things_at_once(self):
        for k, thing in enumerate(ODD_THINGS):
            with self.subTest(k=k):
                self.refused_signs((thing, thing, thing))


class WrongMates(Wrong):
    def test_a_sign_that_is_none(self):
        for k, thing in enumerate(NO_SIGNS):
            with self.subTest(k=k):
                self.refused_mates((thing, 70))
                self.refused_mates((70, thing))
                self.refused_mates((thing, thing))

    def test_its_own_mate(self):
        for sign in (0, 70, sample.GREAT):
            self.refused([], [(sign, sign)], [])

    def test_a_sign_told_twice(self):
        for entry in ((1, 2), (2, 1), (1, 3), (3, 1), (2, 3), (3, 2)):
            with self.subTest(entry=entry):
                self.refused([], [(1, 2), entry], [])
                self.refused([], [(1, 2), (8, 9), entry], [])

    def test_a_sign_told_in_both_lists(self):
        for kind, rank in (("fore", 0), ("mark", 1), ("out", 0)):
            self.refused([(1, kind, rank)], [(1, 2)], [])
            self.refused([(1, kind, rank)], [(2, 1)], [])
            self.refused([(1, kind, rank)], [(3, 4), (2, 1)], [])


class WrongJoins(Wrong):
    def test_a_thing_that_is_no_sign(self):
        for k, thing in enumerate(NO_SIGNS):
            with self.subTest(k=k):
                self.refused_joins((thing, 70, sample.LOW))
                self.refused_joins((70, thing, sample.LOW))
                self.refused_joins((70, 71, thing))
                self.refused_joins((thing, thing, thing))

    def test_truths_that_are_alike_to_told_signs(self):
        signs = [(0, "mark", 1), (1, "mark", 2)]
        self.refused(signs, [], [(70, 71, True)])
        self.refused(signs, [], [(70, 71, False)])
        self.refused([(5, "mark", 1)], [], [(True, 71, 5)])
        self.refused([(5, "mark", 1)], [], [(71, False, 5)])

    def test_a_mark_that_is_no_mark(self):
        for sign in (sample.FORE, sample.BACK, sample.NUM, sample.BLANK, sample.FOREIN, sample.BACKIN, sample.OUT,
                     sample.OPEN, sample.SHUT, sample.UNTOLD):
            with self.subTest(sign=sign):
                self.refused_joins((70, 71, sign))

    def test_a_whole_or_base_that_is_a_mark(self):
        self.refused_joins((sample.LOW, 70, sample.HIGH))
        self.refused_joins((70, sample.LOW, sample.HIGH))
        self.refused([(1, "mark", 1), (2, "mark", 1), (3, "mark", 1)], [], [(1, 2, 3)])

    def test_whole_and_base_of_unlike_kinds(self):
        told = [(1, "fore", 0), (2, "back", 0), (3, "num", 0), (4, "blank", 0), (5, "mark", 1)]
        for whole in (1, 2, 3, 4, 6):
            for base in (1, 2, 3, 4, 7):
                if whole != base and (whole, base) != (6, 7):
                    with self.subTest(whole=whole, base=base):
                        self.refused(told, [], [(whole, base, 5)])

    def test_a_kind_that_may_not_be_joined(self):
        for kind in ("forein", "backin", "out"):
            self.refused([(1, kind, 0), (2, kind, 0), (5, "mark", 1)], [], [(1, 2, 5)])
        self.refused([(5, "mark", 1)], [(1, 2), (3, 4)], [(1, 3, 5)])
        self.refused([(5, "mark", 1)], [(1, 2), (3, 4)], [(2, 4, 5)])

    def test_a_whole_told_twice(self):
        told = [(5, "mark", 1), (6, "mark", 2)]
        for entry in ((1, 2, 6), (1, 3, 5), (1, 3, 6)):
            self.refused(told, [], [(1, 2, 5), entry])
            self.refused(told, [], [(1, 2, 5), (8, 9, 5), entry])

    def test_a_pair_told_twice(self):
        self.refused([(5, "mark", 1)], [], [(1, 2, 5), (3, 2, 5)])
        self.refused([(5, "mark", 1)], [], [(1, 2, 5), (8, 9, 5), (3, 2, 5)])

    def test_a_join_told_twice(self):
        self.refused([(5, "mark", 1)], [], [(1, 2, 5), (1, 2, 5)])


class WrongForms(Wrong):
    def test_things_that_are_no_lists(self):
        for thing in (None, 7, (), ((70, "fore", 0),), {}, "", Raises()):
            self.refused(thing, [], [])
            self.refused([], thing, [])
            self.refused([], [], thing)

    def test_tuples_of_another_length(self):
        for entry in ((), (70,), (70, "fore"), (70, "fore", 0, 0)):
            self.refused_signs(entry)
        for entry in ((), (70,), (70, 71, 72)):
            self.refused_mates(entry)
        for entry in ((), (70,), (70, 71), (70, 71, sample.LOW, sample.LOW)):
            self.refused_joins(entry)

    def test_things_that_are_no_tuples(self):
        for entry in ([70, "fore", 0], "abc", 70, None):
            self.refused_signs(entry)
        for entry in ([70, 71], "ab", 70, None):
            self.refused_mates(entry)
        for entry in ([70, 71, sample.LOW], "abc", 70, None):
            self.refused_joins(entry)


if __name__ == "__main__":
    unittest.main()
