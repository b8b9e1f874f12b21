"""The two plain forms of a text: the long one, all written out, and the short one, joined as far as it goes."""

from bothhands.wholes import wholes_of


def written_out(book, sign):
    base = sign
    marks = []
    pair = book.parts(base)
    while pair is not None:
        base = pair[0]
        # What an inner whole is written as stands ahead of the outer one's mark.
        marks = [pair[1]] + marks
        pair = book.parts(base)
    return [base] + marks


def long_whole(book, whole):
    # A base alone has the rank 0, so it stays ahead of its marks.
    return sorted(written_out(book, whole[0]) + whole[1:], key=book.rank)


def short_whole(book, long_signs):
    # No book joins a mark to a mark, so nothing is taken in where there is no base.
    base = long_signs[0]
    kept = []
    for mark in long_signs[1:]:
        joined = book.joined(base, mark)
        # The ranks rise, so of those kept only the last one can have the same.
        barred = len(kept) > 0 and book.rank(kept[-1]) == book.rank(mark)
        if joined is None or barred:
            kept.append(mark)
        else:
            base = joined
    return [base] + kept


def long_form(book, text):
    signs = []
    for whole in wholes_of(book, text):
        signs.extend(long_whole(book, whole))
    return signs


def short_form(book, text):
    signs = []
    for whole in wholes_of(book, text):
        signs.extend(short_whole(book, long_whole(book, whole)))
    return signs
