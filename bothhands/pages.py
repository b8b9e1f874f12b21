"""Pages: a text in short form, and a hand in it that puts, takes and goes by sign and by sight."""

from bothhands.checks import check_span, is_number_to
from bothhands.errors import NoPlace
from bothhands.forms import short_form
from bothhands.hands import check_place, check_step, held_thing, passed, place_of, side_behind, sight_of
from bothhands.nests import base_or_own
from bothhands.pieces import seen_pieces
from bothhands.rows import check_width, cut_rows, levels_of_rows, row_levels, rows_shown
from bothhands.wholes import signs_of, wholes_of


# Where nothing is to be held to, the hand has but one place, and that has side 0.
def is_hold(place, side, number):
    if number == 0:
        return side == 0
    return held_thing(place, side, number) is not None


def check_hold(place, side, number):
    check_place(place, side, number)
    if not is_hold(place, side, number):
        raise NoPlace("a hand on a page holds to a whole sign, where there is one")


def hold_ahead(place, number):
    return (0, 1) if place == 0 and number > 0 else (place, 0)


def row_held(rows, held):
    whole = held_thing(held[0], held[1], rows[-1][1])
    # Without signs there is but one row, and nothing in it to hold to.
    if whole is None:
        return 0
    return [number for number, row in enumerate(rows) if row[0] <= whole and whole < row[1]][0]


class Page:
    def __init__(self, book, width, base=None, most=20):
        check_width(width)
        self.book = book
        self.width = width
        self.base = base
        self.most = most
        self.signs = []
        self.held = (0, 0)

    def own_wholes(self):
        return wholes_of(self.book, self.signs)

    def lowest(self):
        return base_or_own(self.book, self.signs, self.base)

    def levels_in(self, row):
        return row_levels(self.book, self.signs, row, self.base, self.most)

    def text(self):
        return list(self.signs)

    def hand(self):
        return self.held

    def put(self, signs):
        if len(signs) > 0:
            wholes = self.own_wholes()
            place = self.held[0]
            ahead = signs_of(wholes[:place]) + signs
            self.signs = short_form(self.book, ahead + signs_of(wholes[place:]))
            self.held = (len(wholes_of(self.book, ahead)), 0)
        return self.hand()

    def take(self):
        place = self.held[0]
        if place == 0:
            return []
        wholes = self.own_wholes()
        taken = wholes.pop(place - 1)
        self.signs = signs_of(wholes)
        self.held = hold_ahead(place - 1, len(wholes))
        return taken

    def go(self, step):
        check_step(step)
        place = self.held[0] + step
        if not is_number_to(place, len(self.own_wholes())):
            return False
        self.held = (place, side_behind(step))
        return True

    def look(self, step):
        rows = self.rows()
        row = rows[row_held(rows, self.held)]
        found = passed(self.levels_in(row), self.lowest(), self.held[0] - row[0], self.held[1], step)
        if found is None:
            return False
        self.held = (row[0] + found[0], found[1])
        return True

    def rows(self):
        return cut_rows(self.book, self.signs, self.width)

    def shown(self):
        return rows_shown(self.book, self.signs, self.rows(), self.base, self.most)

    def sight(self):
        if len(self.signs) == 0:
            return (0, 0, 0)
        rows = self.rows()
        number = row_held(rows, self.held)
        row = rows[number]
        seen = sight_of(self.levels_in(row), self.lowest(), self.held[0] - row[0], self.held[1])
        return (number, seen[0], seen[1])

    def point(self, row, gap, hand):
        rows = self.rows()
        if not is_number_to(row, len(rows) - 1):
            raise NoPlace("a row of a page is told by its number, from 0")
        span = rows[row]
        check_hold(gap, hand, span[1] - span[0])
        if len(self.signs) > 0:
            found = place_of(self.levels_in(span), self.lowest(), gap, hand)
            self.held = (span[0] + found[0], found[1])
        return self.hand()

    def stand(self, place, side):
        check_hold(place, side, len(self.own_wholes()))
        self.held = (place, side)
        return self.hand()

    def marked(self, start, end):
        check_span(start, end, len(self.own_wholes()))
        rows = self.rows()
        pieces = []
        for number, levels in enumerate(levels_of_rows(self.book, self.signs, rows, self.base, self.most)):
            first = rows[number][0]
            left = max(start - first, 0)
            right = min(end - first, len(levels))
            if left < right:
                pieces.extend([(number, seen[0], seen[1]) for seen in seen_pieces(levels, left, right)])
        return pieces
