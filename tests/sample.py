"""Lists of a book that is as it should be, for tests to use and to spoil."""

GREAT = 10 ** 30 - 1  # thirty figures

FORE, BACK, NUM, BLANK = 10, 20, 30, 0
LOW, HIGH = 40, 41
FOREIN, BACKIN, OUT = 50, 51, 52
OPEN, SHUT = 60, 61
OTHER_OPEN, OTHER_SHUT = 63, 62
UNTOLD = 999


def signs():
    return [
        (FORE, "fore", 0), (11, "fore", 0), (12, "fore", 0),
        (BACK, "back", 0), (21, "back", 0),
        (NUM, "num", 0), (31, "num", 0),
        (BLANK, "blank", 0), (1, "blank", 0),
        (LOW, "mark", 1), (HIGH, "mark", GREAT),
        (FOREIN, "forein", 0), (BACKIN, "backin", 0), (OUT, "out", 0),
    ]


def mates():
    return [(OPEN, SHUT), (OTHER_OPEN, OTHER_SHUT)]


def joins():
    # 12 is written as 11 and a mark, and 11 itself as 10 and a mark.
    return [
        (12, 11, HIGH), (11, FORE, LOW), (21, BACK, LOW), (31, NUM, HIGH),
        (1, BLANK, LOW), (GREAT, 900, HIGH),
    ]
