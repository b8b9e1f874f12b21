"""Looking: texts that are the same, texts found in others and replaced, and texts compared and parted."""

from bothhands.checks import check_span
from bothhands.errors import NoWhat
from bothhands.forms import long_form, long_whole
from bothhands.wholes import signs_of, wholes_of


def long_wholes(book, text):
    return [long_whole(book, whole) for whole in wholes_of(book, text)]


def same_text(book, one, other):
    return long_form(book, one) == long_form(book, other)


def found_at(book, text, what):
    if len(what) == 0:
        raise NoWhat("a text without signs is not looked for")
    wanted = long_wholes(book, what)
    wholes = long_wholes(book, text)
    number = len(wanted)
    return [k for k in range(len(wholes) - number + 1) if wholes[k:k + number] == wanted]


def replaced(book, text, what, by):
    wholes = wholes_of(book, text)
    number = len(wholes_of(book, what))
    signs = []
    done = 0
    for k in found_at(book, text, what):
        # What overlaps with one that was found ahead is no longer there.
        if k >= done:
            signs.extend(signs_of(wholes[done:k]))
            signs.extend(by)
            done = k + number
    return signs + signs_of(wholes[done:])


def compared(book, one, other):
    first = long_form(book, one)
    second = long_form(book, other)
    if first == second:
        return 0
    return -1 if first < second else 1


def part_of(book, text, start, end):
    wholes = wholes_of(book, text)
    check_span(start, end, len(wholes))
    return signs_of(wholes[start:end])
