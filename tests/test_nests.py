import random
import unittest

import sample
from bothhands.books import Book
from bothhands.nests import nests_of, own_base
from sample import BACK, BACKIN, BLANK, FORE, FOREIN, HIGH, LOW, NUM, OPEN, OUT, SHUT

ALPHABET = [FOREIN, BACKIN, OUT, FORE, BACK]
STRETCHES = [FOREIN, BACKIN, FOREIN, BACKIN, OUT, OUT, OUT, FORE, BACK, LOW, NUM, OPEN]


def kinds_by_the_words(text):
    # The sample's marks are LOW and HIGH; those that a text begins with are one whole sign.
    names = {FOREIN: "forein", BACKIN: "backin", OUT: "out", FORE: "fore", BACK: "back"}
    kinds = [names.get(sign, "plain") for sign in text if sign not in (LOW, HIGH)]
    return ["plain"] + kinds if text and text[0] in (LOW, HIGH) else kinds


def pairs_by_the_words(kinds):
    ended = {}
    for k, kind in enumerate(kinds):
        if kind == "out":
            ahead = [at for at in range(k) if kinds[at] in ("forein", "backin") and at not in ended]
            if ahead:
                ended[ahead[-1]] = k
    beginnings = [at for at in range(len(kinds)) if kinds[at] in ("forein", "backin")]
    return [(at, ended.get(at, len(kinds))) for at in beginnings]


def base_by_the_words(text):
    kinds = kinds_by_the_words(text)
    pairs = pairs_by_the_words(kinds)
    without = [kind for k, kind in enumerate(kinds) if not any(at < k < to for at, to in pairs)]
    return 1 if [kind for kind in without if kind in ("fore", "back")][:1] == ["back"] else 0


def nests_by_the_words(text, base, most):
    kinds = kinds_by_the_words(text)
    told = []
    for at, to in pairs_by_the_words(kinds):
        around = [level for before, behind, level in told if before < at < behind and level is not None]
        now = max([base] + around)
        above = [level for level in (now + 1, now + 2) if level % 2 == (0 if kinds[at] == "forein" else 1)]
        told.append((at, to, above[0] if above[0] <= most else None))
    return told


class OwnBase(unittest.TestCase):
    def setUp(self):
        self.book = Book(sample.signs(), sample.mates(), sample.joins())

    def told(self, text, wanted):
        told = own_base(self.book, text)
        self.assertEqual(told, wanted)
        self.assertIs(type(told), int)

    def test_the_first_one_of_both_kinds(self):
        self.told([FORE], 0)
        self.told([BACK], 1)
        self.told([FORE, BACK], 0)
        self.told([BACK, FORE], 1)

    def test_without_any(self):
        self.told([], 0)
        self.told([LOW], 0)
        self.told([NUM, BLANK, OPEN, SHUT, 999, FOREIN, OUT, OUT], 0)

    def test_other_kinds_ahead(self):
        self.told([LOW, HIGH, NUM, BLANK, OPEN, 999, BACK, FORE], 1)
        self.told([NUM, SHUT, FORE, BACK], 0)

    def test_what_stands_within_a_stretch_does_not_count(self):
        self.told([FOREIN, BACK, OUT, FORE], 0)
        self.told([BACKIN, FORE, OUT, BACK], 1)
        self.told([FOREIN, FOREIN, BACK, OUT, BACK, OUT, FORE], 0)
        self.told([FOREIN, FOREIN, FORE, OUT, OUT, BACK], 1)
        self.told([FOREIN, OUT, BACKIN, FORE, OUT, BACK], 1)
        self.told([FOREIN, BACK, OUT], 0)

    def test_a_beginning_without_an_end(self):
        self.told([FOREIN, BACK], 0)
        self.told([BACKIN, FOREIN, OUT, BACK], 0)
        self.told([BACK, FOREIN, FORE], 1)

    def test_ends_that_end_nothing(self):
        self.told([OUT, BACK], 1)
        self.told([OUT, OUT, FOREIN, FORE, OUT, BACK], 1)
        self.told([OUT, FOREIN, BACK], 0)
        self.told([FOREIN, OUT, OUT, BACKIN, BACK], 0)

    def test_marks_behind_the_signs(self):
        self.told([FOREIN, LOW, HIGH, BACK, LOW, OUT, HIGH, FORE, LOW], 0)
        self.told([BACKIN, LOW, FORE, OUT, LOW, BACK, HIGH], 1)

    def test_deep_stretches(self):
        self.told([FOREIN] * 90 + [FORE] + [OUT] * 90 + [BACK], 1)
        self.told([FOREIN] * 90 + [BACK] + [OUT] * 89 + [BACK], 0)

    def test_all_small_texts_by_the_words_of_the_document(self):
        for text in sample.all_texts(ALPHABET, 6):
            self.assertEqual(own_base(self.book, text), base_by_the_words(text), text)


class Nests(unittest.TestCase):
    def setUp(self):
        self.book = Book(sample.signs(), sample.mates(), sample.joins())

    def told(self, text, base, most, wanted):
        self.assertEqual(nests_of(self.book, text, base, most), wanted)

    def test_without_beginnings(self):
        self.told([], 0, 20, [])
        self.told([FORE, OUT, BACK, OUT], 0, 20, [])
        self.told([LOW], 1, 20, [])

    def test_the_least_level_above(self):
        self.told([FOREIN, OUT], 0, 20, [(0, 1, 2)])
        self.told([FOREIN, OUT], 1, 20, [(0, 1, 2)])
        self.told([BACKIN, OUT], 0, 20, [(0, 1, 1)])
        self.told([BACKIN, OUT], 1, 20, [(0, 1, 3)])

    def test_stretches_within_stretches(self):
        self.told([FORE, FOREIN, BACK, BACKIN, FORE, OUT, FOREIN, OUT, OUT, BACKIN, OUT], 0, 20,
                  [(1, 8, 2), (3, 5, 3), (6, 7, 4), (9, 10, 1)])
        self.told([BACKIN, BACKIN, FOREIN, FOREIN, BACKIN, OUT, OUT, OUT, OUT, OUT], 0, 20,
                  [(0, 9, 1), (1, 8, 3), (2, 7, 4), (3, 6, 6), (4, 5, 7)])

    def test_beginnings_without_an_end(self):
        self.told([FOREIN], 0, 20, [(0, 1, 2)])
        self.told([FOREIN, FORE, BACKIN, BACK], 0, 20, [(0, 4, 2), (2, 4, 3)])
        self.told([FOREIN, BACKIN, OUT, FORE], 0, 20, [(0, 4, 2), (1, 2, 3)])

    def test_ends_that_end_nothing(self):
        self.told([OUT, FOREIN, OUT, OUT, BACKIN, OUT, OUT], 0, 20, [(1, 2, 2), (4, 5, 1)])

    def test_live_at_the_most_and_dead_beyond_it(self):
        for base, sign, level in ((0, FOREIN, 2), (1, FOREIN, 2), (0, BACKIN, 1), (1, BACKIN, 3), (59, FOREIN, 60)):
            self.told([sign, OUT], base, level, [(0, 1, level)])
            self.told([sign, OUT], base, level - 1, [(0, 1, None)])

    def test_a_dead_beginning_leaves_the_level_and_is_ended_all_the_same(self):
        self.told([FOREIN, FOREIN, BACKIN, OUT, OUT, BACKIN, OUT, OUT, BACKIN], 0, 3,
                  [(0, 7, 2), (1, 4, None), (2, 3, 3), (5, 6, 3), (8, 9, 1)])
        self.told([BACKIN, BACKIN, FOREIN, OUT, OUT, FOREIN], 0, 2, [(0, 6, 1), (1, 4, None), (2, 3, 2), (5, 6, 2)])

    def test_a_dead_beginning_without_an_end(self):
        self.told([FORE, FOREIN, BACK], 0, 1, [(1, 3, None)])

    def test_a_base_above_the_most(self):
        self.told([FOREIN, BACKIN, OUT, OUT], 60, 0, [(0, 3, None), (1, 2, None)])
        self.told([FOREIN, BACKIN, OUT, OUT], 20, 20, [(0, 3, None), (1, 2, None)])

    def test_the_most_left_out_is_20(self):
        text = [FOREIN] * 12
        self.assertEqual(nests_of(self.book, text, 0), [(k, 12, 2 * k + 2 if k < 10 else None) for k in range(12)])
        self.assertEqual(nests_of(self.book, [BACKIN], 19), [(0, 1, None)])
        self.assertEqual(nests_of(self.book, [FOREIN], 19), [(0, 1, 20)])
        text = [FOREIN, BACKIN, OUT]
        self.assertEqual(nests_of(self.book, text, 5), nests_of(self.book, text, 5, 20))

    def test_the_most_by_its_name(self):
        self.assertEqual(nests_of(self.book, [FOREIN], base=0, most=1), [(0, 1, None)])

    def test_numbers_are_those_of_whole_signs(self):
        self.told([LOW, HIGH, FORE, LOW, FOREIN, LOW, HIGH, BACK, HIGH, OUT, LOW, FORE], 0, 20, [(2, 4, 2)])
        self.told([BACKIN, HIGH, LOW, FOREIN, LOW], 0, 20, [(0, 2, 1), (1, 2, 2)])

    def test_what_is_told_are_tuples(self):
        for nest in nests_of(self.book, [FOREIN, OUT, BACKIN], 0):
            self.assertIs(type(nest), tuple)

    def test_bases_and_mosts_from_0_to_60(self):
        chosen = random.Random(16)
        texts = [[chosen.choice(STRETCHES) for k in range(14)] for number in range(4)] + [[FOREIN], [BACKIN]]
        for text in texts:
            for base in range(61):
                for most in range(61):
                    self.told(text, base, most, nests_by_the_words(text, base, most))

    def test_all_small_texts_by_the_words_of_the_document(self):
        for text in sample.all_texts([FOREIN, BACKIN, OUT, FORE], 6):
            for base, most in ((0, 20), (1, 3), (2, 4)):
                self.told(text, base, most, nests_by_the_words(text, base, most))

    def test_two_hundred_signs(self):
        self.told([FOREIN] * 200, 0, 60, [(k, 200, 2 * k + 2 if k < 30 else None) for k in range(200)])
        text = [BACKIN] * 100 + [OUT] * 100
        levels = [2 * k + 1 if k < 30 else None for k in range(100)]
        self.told(text, 0, 60, [(k, 199 - k, levels[k]) for k in range(100)])
        chosen = random.Random(17)
        text = [chosen.choice(STRETCHES) for k in range(200)]
        self.told(text, 1, 60, nests_by_the_words(text, 1, 60))


if __name__ == "__main__":
    unittest.main()
