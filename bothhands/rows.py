"""Rows: a text cut by a width, the levels of a row, and a row laid in the order in which it is seen."""

from bothhands.checks import check_span, is_whole_number
from bothhands.errors import NoPlace, NoWidth
from bothhands.levels import levels_of
from bothhands.nests import base_or_own
from bothhands.orders import order_of
from bothhands.wholes import kinds_of, wholes_of


# The words of a refusal don't show the thing itself: some things can't be shown.
def check_width(width):
    if not is_whole_number(width) or width < 1:
        raise NoWidth("a width is a whole number from 1 on")


def check_row(row, number):
    if not isinstance(row, tuple) or len(row) != 2:
        raise NoPlace("a row is a tuple of two whole numbers")
    check_span(row[0], row[1], number)


def row_end(kinds, start, width):
    if len(kinds) - start <= width:
        return len(kinds)
    blanks = [k for k in range(start, start + width) if kinds[k] == "blank"]
    return max(blanks, default=start + width - 1) + 1


def cut_rows(book, text, width):
    check_width(width)
    kinds = kinds_of(book, text)
    rows = [(0, row_end(kinds, 0, width))]
    while rows[-1][1] < len(kinds):
        start = rows[-1][1]
        rows.append((start, row_end(kinds, start, width)))
    return rows


def with_last_blanks(kinds, levels, base):
    last = len(kinds)
    while last > 0 and kinds[last - 1] == "blank":
        last -= 1
    return levels[:last] + [base] * (len(kinds) - last)


# The levels hang on the whole text, so they are found once for all rows.
def levels_of_rows(book, text, rows, base, most):
    kinds = kinds_of(book, text)
    lowest = base_or_own(book, text, base)
    levels = levels_of(book, text, lowest, most)
    return [with_last_blanks(kinds[row[0]:row[1]], levels[row[0]:row[1]], lowest) for row in rows]


def whole_shown(book, whole, level):
    mate = book.mate(whole[0])
    if mate is None or level % 2 == 0:
        return whole
    return [mate] + whole[1:]


def rows_shown(book, text, rows, base, most):
    wholes = wholes_of(book, text)
    shown = []
    for row, levels in zip(rows, levels_of_rows(book, text, rows, base, most)):
        shown.append([whole_shown(book, wholes[row[0] + k], levels[k]) for k in order_of(levels)])
    return shown


def row_levels(book, text, row, base=None, most=20):
    check_row(row, len(wholes_of(book, text)))
    return levels_of_rows(book, text, [row], base, most)[0]


def row_shown(book, text, row, base=None, most=20):
    check_row(row, len(wholes_of(book, text)))
    return rows_shown(book, text, [row], base, most)[0]
