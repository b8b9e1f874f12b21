"""Lists of books that are as they should be, for tests to use and to spoil, and texts for them."""

import itertools
import random

GREAT = 10 ** 30 - 1  # thirty figures

FORE, BACK, NUM, BLANK = 10, 20, 30, 0
LOW, HIGH = 40, 41
FOREIN, BACKIN, OUT = 50, 51, 52
OPEN, SHUT = 60, 61
OTHER_OPEN, OTHER_SHUT = 63, 62
UNTOLD = 999


def signs():
    return [
        (FORE, "fore", 0), (11, "fore", 0), (12, "fore", 0),
        (BACK, "back", 0), (21, "back", 0),
        (NUM, "num", 0), (31, "num", 0),
        (BLANK, "blank", 0), (1, "blank", 0),
        (LOW, "mark", 1), (HIGH, "mark", GREAT),
        (FOREIN, "forein", 0), (BACKIN, "backin", 0), (OUT, "out", 0),
    ]


def mates():
    return [(OPEN, SHUT), (OTHER_OPEN, OTHER_SHUT)]


def joins():
    # 12 is written as 11 and a mark, and 11 itself as 10 and a mark.
    return [
        (12, 11, HIGH), (11, FORE, LOW), (21, BACK, LOW), (31, NUM, HIGH),
        (1, BLANK, LOW), (GREAT, 900, HIGH),
    ]


# Texts of the sample's book, written with a letter for each sign.
LETTERS = {
    "F": FORE, "B": BACK, "N": NUM, "_": BLANK, "p": UNTOLD, "'": LOW, "f": FOREIN, "b": BACKIN, "o": OUT,
    "(": OPEN, ")": SHUT, "[": OTHER_OPEN, "]": OTHER_SHUT,
}


def spelled(letters):
    return [LETTERS[letter] for letter in letters]


def spelled_texts(number, most_signs, seed, letters="FFBBNN_p'fboo()[]"):
    chosen = random.Random(seed)
    return [spelled(chosen.choices(letters, k=chosen.randrange(most_signs + 1))) for k in range(number)]


# A book of bases with marks: the ranks of M1 and N1 are alike, and those of M2 and N2.
M1, N1, M2, N2, M3, MG = 91, 92, 93, 94, 95, 96
RANKS = {M1: 1, N1: 1, M2: 2, N2: 2, M3: 3, MG: GREAT}
CHAIN = 200  # 207 comes to 200 in seven goings
CHAIN_MARKS = [M3, M1, M2, N1, MG, N2, M1]


def form_signs():
    told = [(sign, "fore", 0) for sign in range(10, 16)] + [(sign, "back", 0) for sign in range(20, 23)]
    told += [(30, "num", 0), (31, "num", 0), (0, "blank", 0), (1, "blank", 0)]
    told += [(FOREIN, "forein", 0), (BACKIN, "backin", 0), (OUT, "out", 0)]
    return told + [(mark, "mark", rank) for mark, rank in RANKS.items()]


def form_joins():
    told = [
        (11, 10, M1), (12, 11, M2), (13, 10, M2), (14, 13, M2), (15, 10, M3),
        # The marks of 22 come in the wrong order: 22 is no short form.
        (21, 20, M2), (22, 21, M1),
        (31, 30, MG), (1, 0, N1), (GREAT, GREAT - 1, MG),
    ]
    return told + [(CHAIN + k + 1, CHAIN + k, mark) for k, mark in enumerate(CHAIN_MARKS)]


FORM_ALPHABET = [10, 11, 12, 13, 14, 15, 20, 21, 22, 30, 31, 0, 1, 203, 207, 999, GREAT, GREAT - 1, FOREIN, OUT, OPEN,
                 M1, N1, M2, N2, M3, MG, M1, N1, M2, N2, M3, MG]


def mixed_text(length, chosen):
    return [chosen.choice(FORM_ALPHABET) for k in range(length)]


def mixed_texts(number, most_signs, seed):
    chosen = random.Random(seed)
    return [mixed_text(chosen.randrange(most_signs + 1), chosen) for k in range(number)]


def all_texts(alphabet, most_signs):
    return [list(signs) for length in range(most_signs + 1) for signs in itertools.product(alphabet, repeat=length)]
