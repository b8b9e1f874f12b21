import random
import unittest

import sample
from bothhands.books import Book
from bothhands.forms import long_form, short_form
from bothhands.levels import levels_of
from bothhands.nests import nests_of, own_base
from bothhands.wholes import kinds_of, wholes_of
from sample import BACKIN, FOREIN, GREAT, M1, M2, M3, OUT, spelled


# What 15, 16 and 17 say, asked of each whole sign by itself.
class Words:
    def __init__(self, book, text, base, most):
        self.book = book
        self.kinds = kinds_of(book, text)
        self.signs = [whole[0] for whole in wholes_of(book, text)]
        self.base = own_base(book, text) if base is None else base
        self.live = [nest for nest in nests_of(book, text, self.base, most) if nest[2] is not None]
        self.homes = [self.home(k) for k in range(len(self.kinds))]
        self.pairs = {}
        for home in set(self.homes):
            self.find_pairs(home)

    def home(self, k):
        around = [nest for nest in self.live if nest[0] < k < nest[1]]
        return max(around, key=lambda nest: nest[2]) if around else (None, None, self.base)

    def row(self, home):
        return [k for k in range(len(self.kinds)) if self.homes[k] == home]

    def own_way(self, home):
        return ("fore", "back")[home[2] % 2]

    def find_pairs(self, home):
        waiting = set()
        for k in self.row(home):
            if self.kinds[k] == "open":
                waiting.add(k)
            if self.kinds[k] == "shut":
                fitting = [at for at in waiting if self.book.mate(self.signs[at]) == self.signs[k]]
                if fitting:
                    self.pairs[max(fitting)] = self.pairs[k] = (max(fitting), k)
                    waiting = {at for at in waiting if at < max(fitting)}

    def leading(self, k):
        return self.kinds[k] in ("fore", "back", "num")

    def leading_way(self, k):
        if self.kinds[k] != "num":
            return self.kinds[k]
        ahead = [self.kinds[j] for j in self.row(self.homes[k]) if j < k and self.kinds[j] in ("fore", "back")]
        return (ahead or [self.own_way(self.homes[k])])[-1]

    def first_way(self, k):
        if self.leading(k):
            return self.leading_way(k)
        if k not in self.pairs:
            return None
        at, to = self.pairs[k]
        row, own = self.row(self.homes[k]), self.own_way(self.homes[k])
        within = {self.leading_way(j) for j in row if at < j < to and self.leading(j)}
        if not within or own in within:
            return own if within else None
        return ([own] + [self.leading_way(j) for j in row if j < at and self.leading(j)])[-1]

    def way(self, k):
        row, own = self.row(self.homes[k]), self.own_way(self.homes[k])
        if self.first_way(k):
            return self.first_way(k)
        ahead = [own] + [self.first_way(j) for j in row if j < k and self.first_way(j)]
        behind = [self.first_way(j) for j in row if j > k and self.first_way(j)] + [own]
        return ahead[-1] if ahead[-1] == behind[0] else own

    def level(self, k):
        v = self.homes[k][2]
        if self.kinds[k] == "num":
            return v + 1 if v % 2 else v + 2 * (self.way(k) == "back")
        return v + (self.way(k) != self.own_way(self.homes[k]))

    def levels(self):
        return [self.level(k) for k in range(len(self.kinds))]


class Levels(unittest.TestCase):
    def setUp(self):
        self.book = Book(sample.signs(), sample.mates(), sample.joins())

    def told(self, letters, base, wanted, most=20):
        told = levels_of(self.book, spelled(letters), base, most)
        self.assertEqual(told, wanted, letters)
        self.assertEqual({type(level) for level in told}, {int} if wanted else set())

    def by_the_words(self, text, base=None, most=20):
        told = levels_of(self.book, text, base, most)
        self.assertEqual(told, Words(self.book, text, base, most).levels(), (text, base, most))


class FirstWays(Levels):
    def test_without_signs(self):
        for base in (None, 0, 1, 60):
            self.told("", base, [])

    def test_fore_and_back(self):
        self.told("FBF", 0, [0, 1, 0])
        self.told("FBF", 1, [2, 1, 2])
        self.told("BFB", 2, [3, 2, 3])
        self.told("BFB", 59, [59, 60, 59])

    def test_a_num_ahead_of_any_fore_or_back(self):
        self.told("NB", 0, [0, 1])
        self.told("NF", 0, [0, 0])
        self.told("NB", 1, [2, 1])
        self.told("NF", 1, [2, 2])
        self.told("N", 4, [4])
        self.told("NpB", 0, [0, 0, 1])
        self.told("NpB", 1, [2, 1, 1])

    def test_a_num_behind_a_fore_or_back(self):
        self.told("FN", 0, [0, 0])
        self.told("BN", 0, [1, 2])
        self.told("FBN", 0, [0, 1, 2])
        self.told("BFN", 0, [1, 0, 0])
        self.told("BpN", 2, [3, 3, 4])
        self.told("FN", 1, [2, 2])
        self.told("BN", 1, [1, 2])
        self.told("BN", 60, [61, 62])
        self.told("BNN", 0, [1, 2, 2])

    def test_the_way_of_a_num_counts_for_its_neighbours(self):
        self.told("BNpN", 0, [1, 2, 1, 2])
        self.told("FNpF", 1, [2, 2, 2, 2])
        self.told("FNpB", 1, [2, 2, 1, 1])
        self.told("BNpF", 1, [1, 2, 1, 2])
        self.told("NpF", 1, [2, 1, 2])

    def test_a_num_looks_at_its_own_row_alone(self):
        self.told("BfFoN", 0, [1, 1, 2, 1, 2])
        self.told("bFoN", 0, [0, 2, 0, 0])
        self.told("bBoN", 0, [0, 1, 0, 0])
        self.told("BfNo", 0, [1, 0, 2, 0])
        self.told("FbNo", 0, [0, 0, 2, 0])
        self.told("FbFoBN", 0, [0, 0, 2, 0, 1, 2])

    def test_a_num_looks_into_a_dead_stretch(self):
        self.told("BfFoN", 0, [1, 0, 0, 0, 0], most=0)
        self.told("bBoN", 0, [0, 1, 1, 2], most=0)


class OtherWays(Levels):
    def test_at_the_beginning_of_a_row(self):
        self.told("pF", 0, [0, 0])
        self.told("pB", 0, [0, 1])
        self.told("pF", 1, [1, 2])
        self.told("ppB", 1, [1, 1, 1])

    def test_at_the_end_of_a_row(self):
        self.told("Fp", 0, [0, 0])
        self.told("Bpp", 0, [1, 0, 0])
        self.told("Fpp", 1, [2, 1, 1])
        self.told("Bp", 1, [1, 1])

    def test_alone(self):
        self.told("p", 0, [0])
        self.told("p_(", 1, [1, 1, 1])

    def test_between_alike_and_unlike_neighbours(self):
        for base, wanted in ((0, [0, 1, 0, 0]), (1, [2, 1, 1, 1]), (6, [6, 7, 6, 6]), (7, [8, 7, 7, 7])):
            for between in ("p", "_", "(", ")", "o", "p_", "_p(o"):
                around = (("F", "F"), ("B", "B"), ("F", "B"), ("B", "F"))
                for (ahead, behind), level in zip(around, wanted):
                    told = levels_of(self.book, spelled(ahead + between + behind), base)
                    self.assertEqual(told[1:-1], [level] * len(between), (base, ahead, between, behind))

    def test_live_beginnings_and_ends_stand_where_the_stretch_stands(self):
        self.told("BfFoB", 0, [1, 1, 2, 1, 1])
        self.told("FbBoF", 1, [2, 2, 3, 2, 2])
        self.told("FbBoB", 1, [2, 1, 3, 1, 1])
        self.told("BfF", 0, [1, 0, 2])
        self.told("BfFoF", 0, [1, 0, 2, 0, 0])
        self.told("BfoB", 0, [1, 1, 1, 1])

    def test_dead_beginnings_and_ends(self):
        self.told("BfFoB", 0, [1, 0, 0, 0, 1], most=1)
        self.told("BfBoB", 0, [1, 1, 1, 1, 1], most=1)
        self.told("BbFoB", 0, [1, 0, 0, 0, 1], most=0)
        self.told("BbFoB", 0, [1, 1, 2, 1, 1], most=1)

    def test_an_end_of_a_dead_beginning_within_a_live_one(self):
        self.told("bFfFoFoB", 0, [0, 2, 2, 2, 2, 2, 0, 1], most=1)

    def test_ends_that_end_nothing(self):
        self.told("BoB", 0, [1, 1, 1])
        self.told("FoB", 0, [0, 0, 1])
        self.told("oB", 0, [0, 1])
        self.told("fBooB", 0, [0, 3, 0, 0, 1])

    def test_whole_signs_without_a_base(self):
        self.told("'", 0, [0])
        self.told("''B", 0, [0, 1])
        self.told("'F", 1, [1, 2])
        self.told("'B'", 1, [1, 1])

    def test_marks_behind_the_signs(self):
        self.told("B'p''B'f'B'o'", 0, [1, 1, 1, 0, 3, 0])


class Pairs(Levels):
    def test_around_nothing(self):
        self.told("B()B", 0, [1, 1, 1, 1])
        self.told("F()B", 0, [0, 0, 0, 1])
        self.told("B(p_)B", 0, [1] * 6)
        self.told("F(p)F", 1, [2, 2, 2, 2, 2])
        self.told("()", 1, [1, 1])

    def test_around_one_of_the_way_of_the_stretch(self):
        self.told("B(F)B", 0, [1, 0, 0, 0, 1])
        self.told("B(BFB)B", 0, [1, 0, 1, 0, 1, 0, 1])
        self.told("F(B)F", 1, [2, 1, 1, 1, 2])
        self.told("F(pBp)F", 1, [2, 1, 1, 1, 1, 1, 2])

    def test_around_one_of_the_other_way_with_the_other_way_ahead(self):
        self.told("B(B)F", 0, [1, 1, 1, 1, 0])
        self.told("Bp(B)p", 0, [1, 1, 1, 1, 1, 0])
        self.told("F(F)B", 1, [2, 2, 2, 2, 1])

    def test_around_one_of_the_other_way_with_the_way_of_the_stretch_ahead(self):
        self.told("F(B)B", 0, [0, 0, 1, 0, 1])
        self.told("BF(B)B", 0, [1, 0, 0, 1, 0, 1])
        self.told("B(F)F", 1, [1, 1, 2, 1, 2])

    def test_around_one_of_the_other_way_with_none_ahead(self):
        self.told("(B)B", 0, [0, 1, 0, 1])
        self.told("p_(B)B", 0, [0, 0, 0, 1, 0, 1])
        self.told("(F)F", 1, [1, 2, 1, 2])

    def test_around_a_num_alone(self):
        self.told("(N)", 0, [0, 0, 0])
        self.told("(N)B", 0, [0, 0, 0, 1])
        self.told("B(N)F", 0, [1, 1, 2, 1, 0])
        self.told("F(N)B", 0, [0, 0, 0, 0, 1])
        self.told("(N)F", 1, [1, 2, 1, 2])
        self.told("F(N)B", 1, [2, 2, 2, 2, 1])
        self.told("B(N)F", 1, [1, 1, 2, 1, 2])

    def test_a_num_ahead_of_the_open(self):
        self.told("N(B)B", 0, [0, 0, 1, 0, 1])
        self.told("BN(B)F", 0, [1, 2, 1, 1, 1, 0])
        self.told("N(F)F", 1, [2, 1, 2, 1, 2])
        self.told("FN(F)B", 1, [2, 2, 2, 2, 2, 1])

    def test_one_pair_does_not_count_for_another(self):
        # The first pair has the stretch's way, yet the last sign ahead of the second one hasn't.
        self.told("B(FB)(B)F", 0, [1, 0, 0, 1, 0, 1, 1, 1, 0])
        self.told("F(BF)(F)B", 1, [2, 1, 1, 2, 1, 2, 2, 2, 1])
        self.told("B(F)(B)F", 0, [1, 0, 0, 0, 0, 1, 0, 0])
        self.told("B[(B)]F", 0, [1, 1, 1, 1, 1, 1, 0])
        self.told("[(B)]B", 0, [0, 0, 1, 0, 0, 1])
        self.told("B(B)(B)F", 0, [1, 1, 1, 1, 1, 1, 1, 0])

    def test_pairs_count_as_neighbours(self):
        self.told("B(F)p(F)B", 0, [1, 0, 0, 0, 0, 0, 0, 0, 1])
        self.told("F(B)pB", 0, [0, 0, 1, 0, 0, 1])
        self.told("B(B)pB", 0, [1] * 6)
        self.told("B(B)p(B)", 0, [1] * 8)

    def test_a_shut_without_an_open(self):
        self.told("B)B", 0, [1, 1, 1])
        self.told("B)F", 0, [1, 0, 0])
        self.told("B(F]B", 0, [1, 0, 0, 0, 1])
        self.told("F(B]B", 0, [0, 0, 1, 1, 1])
        self.told("F)B(B", 0, [0, 0, 1, 1, 1])

    def test_an_open_without_a_shut(self):
        self.told("B(B(B)F", 0, [1, 1, 1, 1, 1, 1, 0])
        self.told("F(B(B", 0, [0, 0, 1, 1, 1])

    def test_a_shut_is_paired_with_the_last_open(self):
        self.told("B(F(B)B", 0, [1, 0, 0, 0, 1, 0, 1])
        self.told("F(B(B)B)B", 0, [0, 0, 1, 1, 1, 1, 1, 0, 1])
        self.told("B(B)B)B", 0, [1] * 7)

    def test_opens_behind_a_paired_one_wait_no_more(self):
        self.told("B[(]B)F", 0, [1, 1, 1, 1, 1, 0, 0])
        self.told("F[(]B)B", 0, [0, 0, 0, 0, 1, 1, 1])

    def test_opens_ahead_of_a_paired_one_wait_on(self):
        self.told("B[()B]F", 0, [1, 1, 1, 1, 1, 1, 0])

    def test_pairs_that_cross(self):
        # The first shut goes to its open; the second one's open waits no more.
        self.told("F(B[B)B]B", 0, [0, 0, 1, 1, 1, 0, 1, 1, 1])
        self.told("B([F)B]F", 0, [1, 0, 0, 0, 0, 1, 0, 0])
        self.told("B[(B]B)F", 0, [1, 1, 1, 1, 1, 1, 0, 0])

    def test_what_lies_within_an_inner_live_stretch_is_no_part_of_the_row(self):
        self.told("B(bBo)F", 0, [1, 0, 0, 1, 0, 0, 0])
        self.told("B(fFo)B", 0, [1, 1, 1, 2, 1, 1, 1])
        self.told("F(bB)oB", 0, [0, 0, 0, 1, 1, 0, 1])
        self.told("F(fB)oB)B", 0, [0, 0, 0, 3, 2, 0, 1, 0, 1])

    def test_what_lies_within_an_inner_dead_stretch_is_part_of_the_row(self):
        self.told("B(bBo)F", 0, [1, 1, 1, 1, 1, 1, 0], most=0)
        self.told("B(fFo)B", 0, [1, 0, 0, 0, 0, 0, 1], most=0)
        self.told("F(bB)oB", 0, [0, 0, 0, 1, 0, 0, 1], most=0)

    def test_marks_behind_brackets(self):
        self.told("B('F')'B", 0, [1, 0, 0, 0, 1])
        self.told("F['B']'B", 0, [0, 0, 1, 0, 1])


class BasesAndMosts(Levels):
    def test_base_left_out_and_none(self):
        for letters in ("B", "F", "fBoB", "fBoF", "BfFo", "N", "pB(F)", ""):
            text = spelled(letters)
            wanted = levels_of(self.book, text, own_base(self.book, text), 20)
            self.assertEqual(levels_of(self.book, text), wanted)
            self.assertEqual(levels_of(self.book, text, None), wanted)
            self.assertEqual(levels_of(self.book, text, base=None, most=20), wanted)
            self.by_the_words(text)
        self.assertEqual(levels_of(self.book, spelled("BF")), [1, 2])
        self.assertEqual(levels_of(self.book, spelled("FB")), [0, 1])

    def test_a_base_of_0_is_not_left_out(self):
        self.told("BF", 0, [1, 0])

    def test_the_most_left_out_is_20(self):
        text = [FOREIN] * 11 + spelled("FB")
        self.assertEqual(levels_of(self.book, text, 0)[-2:], [20, 21])
        self.assertEqual(levels_of(self.book, text, 0), levels_of(self.book, text, 0, 20))
        self.assertEqual(levels_of(self.book, text, 0, 60)[-2:], [22, 23])
        self.assertEqual(levels_of(self.book, text, 0, most=1)[-2:], [0, 1])

    def test_stretches_of_the_most(self):
        self.told("fFBBN", 0, [0, 2, 3, 3, 4], most=2)
        self.told("fFBBN", 58, [58, 60, 61, 61, 62], most=60)
        self.told("bFBFN", 58, [58, 60, 59, 60, 60], most=59)
        self.told("bFBN", 0, [0, 2, 1, 2], most=1)
        self.told("bFB", 0, [0, 0, 1], most=0)

    def test_bases_and_mosts_from_0_to_60(self):
        texts = sample.spelled_texts(3, 14, 21) + [spelled("BfNFBobB(F)N"), spelled("NbBfFbB(N)F")]
        for text in texts:
            for base in range(61):
                for most in (0, 1, 20, 59, 60):
                    self.by_the_words(text, base, most)
            for most in range(61):
                for base in (None, 0, 1, 30, 60):
                    self.by_the_words(text, base, most)


class All(Levels):
    def test_all_small_texts_without_stretches(self):
        for text in sample.all_texts(spelled("FBNp()"), 4):
            for base in (0, 1):
                self.by_the_words(text, base)

    def test_all_small_texts_with_stretches(self):
        for text in sample.all_texts(spelled("FBNpfbo"), 4):
            self.by_the_words(text)
            self.by_the_words(text, 0, 1)

    def test_longer_texts(self):
        for text in sample.spelled_texts(300, 24, 22):
            for base, most in ((None, 20), (0, 2), (1, 3)):
                self.by_the_words(text, base, most)
        for text in sample.spelled_texts(600, 20, 23, "FFBBN_(())[]"):
            self.by_the_words(text, 0)
            self.by_the_words(text, 1)

    def test_two_hundred_signs(self):
        chosen = random.Random(24)
        self.by_the_words(spelled(chosen.choices("FFBBNN_p'fboo()[]", k=200)), 1, 60)
        self.assertEqual(levels_of(self.book, [FOREIN] * 200, 0, 60), [2 * min(k, 30) for k in range(200)])
        text = [BACKIN] * 100 + [OUT] * 100
        outer = [0] + [2 * min(k, 30) - 1 for k in range(1, 100)]
        self.assertEqual(levels_of(self.book, text, 0, 60), outer + outer[::-1])
        self.assertEqual(levels_of(self.book, spelled("(" * 99 + "B" + ")" * 99 + "B"), 0),
                         [0] * 99 + [1] + [0] * 99 + [1])

    def test_thirty_figures(self):
        book = Book([(GREAT, "back", 0), (GREAT - 1, "mark", GREAT)], [(GREAT - 2, GREAT - 3)], [])
        self.assertEqual(levels_of(book, [GREAT, GREAT - 1, GREAT - 2, GREAT - 1, GREAT, GREAT - 3, 5], 0),
                         [1, 1, 1, 1, 0])


class Stretches(Levels):
    def test_what_lies_within_a_live_stretch_is_as_a_text_by_itself(self):
        seen = 0
        for text in sample.spelled_texts(400, 30, 25):
            wholes = wholes_of(self.book, text)
            for base, most in ((None, 20), (3, 7), (0, 60)):
                lowest = own_base(self.book, text) if base is None else base
                levels = levels_of(self.book, text, base, most)
                for at, to, level in nests_of(self.book, text, lowest, most):
                    if level is not None:
                        within = sum(wholes[at + 1:to], [])
                        self.assertEqual(levels[at + 1:to], levels_of(self.book, within, level, most))
                        seen += bool(within)
        self.assertGreater(seen, 1000)

    def balanced(self, chosen, length):
        text, depth = [], 0
        for k in range(length):
            letter = chosen.choice("FBN_p()[]fbooo")
            if letter != "o" or depth > 0:
                text += [letter]
                depth += {"f": 1, "b": 1, "o": -1}.get(letter, 0)
        return spelled(text) + [OUT] * depth

    def test_what_stands_within_an_ended_stretch_may_be_exchanged(self):
        chosen = random.Random(26)
        for number in range(300):
            ahead = spelled(chosen.choices("FBN_p()[]fbo", k=chosen.randrange(8))) + [chosen.choice([FOREIN, BACKIN])]
            behind = [OUT] + spelled(chosen.choices("FBN_p()[]fbo'", k=chosen.randrange(8)))
            first, second = [self.balanced(chosen, chosen.randrange(10)) for k in range(2)]
            for base in (None, 0, 1):
                levels = [levels_of(self.book, ahead + within + behind, base) for within in (first, second, [])]
                outside = [told[:len(ahead)] + told[len(ahead) + len(within):]
                           for told, within in zip(levels, (first, second, []))]
                self.assertEqual(outside[0], outside[1])
                self.assertEqual(outside[0], outside[2])


class Forms(unittest.TestCase):
    def test_a_text_and_both_its_forms_have_the_same_levels(self):
        book = Book(sample.form_signs(), sample.mates(), sample.form_joins())
        texts = sample.mixed_texts(300, 30, 27) + [[12, M1, 22, 0, M1, 14, 31], [M1, M3, M2, 22, 1, 21]]
        for text in texts:
            forms = (text, long_form(book, text), short_form(book, text))
            for base in (None, 0, 1):
                told = [levels_of(book, form, base) for form in forms]
                self.assertEqual(told, [told[0]] * 3)
                self.assertEqual(len(told[0]), len(wholes_of(book, text)))


if __name__ == "__main__":
    unittest.main()
