"""Books: the kinds and ranks of signs, which are mates, and which are joined."""

from bothhands.checks import is_sign, is_whole_number
from bothhands.errors import NoBook

TOLD_KINDS = ("fore", "back", "num", "blank", "mark", "forein", "backin", "out")
JOINED_KINDS = ("fore", "back", "num", "blank", "plain")
MOST_GOINGS = 7


# The words of a refusal never show the thing itself: things of any sort may be
# handed in, and some of them can't be shown.
def refuse_unless(held, words):
    if not held:
        raise NoBook(words)


def check_tuples(rows, length):
    refuse_unless(isinstance(rows, list), "a book is made of lists")
    for row in rows:
        refuse_unless(isinstance(row, tuple) and len(row) == length, "a list of a book has tuples of its own length")


# The sort of the thing is asked first, for a thing that is no text may answer
# anything, or nothing, when it is compared.
def is_told_kind(thing):
    return isinstance(thing, str) and thing in TOLD_KINDS


def is_rank_of(kind, thing):
    if not is_whole_number(thing):
        return False
    if kind == "mark":
        return thing >= 1
    return thing == 0


def kind_among(kinds, sign):
    return kinds.get(sign, "plain")


def add_kind(kinds, sign, kind):
    refuse_unless(is_sign(sign), "a sign is a whole number from 0 on")
    refuse_unless(sign not in kinds, "a sign stands at most once in the first two lists")
    kinds[sign] = kind


def kinds_told(signs, mates):
    kinds = {}
    for sign, kind, rank in signs:
        refuse_unless(is_told_kind(kind), "a kind is one of the eight told ones")
        refuse_unless(is_rank_of(kind, rank), "a rank is from 1 on of a mark, and 0 of all others")
        add_kind(kinds, sign, kind)
    for first, second in mates:
        add_kind(kinds, first, "open")
        add_kind(kinds, second, "shut")
    return kinds


def ranks_told(signs):
    ranks = {}
    for sign, kind, rank in signs:
        ranks[sign] = rank
    return ranks


def both_ways(mates):
    found = {}
    for first, second in mates:
        found[first] = second
        found[second] = first
    return found


def check_join(kinds, whole, base, mark):
    refuse_unless(is_sign(whole) and is_sign(base) and is_sign(mark), "a join is made of signs")
    refuse_unless(kind_among(kinds, mark) == "mark", "the mark of a join is a mark")
    kind = kind_among(kinds, whole)
    refuse_unless(kind in JOINED_KINDS, "signs of this kind are not joined")
    refuse_unless(kind_among(kinds, base) == kind, "a whole and its base have the same kind")


# A round that comes back to itself is still at a whole behind all goings, so
# counting them is enough to find it.
def ends_in_time(pairs, whole):
    sign = whole
    for going in range(MOST_GOINGS):
        if sign in pairs:
            sign = pairs[sign][0]
    return sign not in pairs


def pairs_told(kinds, joins):
    pairs = {}
    for whole, base, mark in joins:
        check_join(kinds, whole, base, mark)
        refuse_unless(whole not in pairs, "a whole is told once")
        pairs[whole] = (base, mark)
    for whole in pairs:
        refuse_unless(ends_in_time(pairs, whole), "a whole comes to its last base within seven goings")
    return pairs


def wholes_told(pairs):
    wholes = {}
    for whole, pair in pairs.items():
        refuse_unless(pair not in wholes, "a pair of base and mark is told once")
        wholes[pair] = whole
    return wholes


class Book:
    def __init__(self, signs, mates, joins):
        check_tuples(signs, 3)
        check_tuples(mates, 2)
        check_tuples(joins, 3)
        self.kinds = kinds_told(signs, mates)
        self.ranks = ranks_told(signs)
        self.mates = both_ways(mates)
        self.pairs = pairs_told(self.kinds, joins)
        self.wholes = wholes_told(self.pairs)

    def kind(self, sign):
        return kind_among(self.kinds, sign)

    def rank(self, sign):
        return self.ranks.get(sign, 0)

    def mate(self, sign):
        return self.mates.get(sign)

    def parts(self, sign):
        return self.pairs.get(sign)

    def joined(self, base, mark):
        return self.wholes.get((base, mark))
