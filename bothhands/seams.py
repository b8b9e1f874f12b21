"""Seams: where two texts, put end to end, bear upon one another, and their forms put together."""

from bothhands.forms import long_form, short_form


def base_places(book, text):
    return [k for k, sign in enumerate(text) if book.kind(sign) != "mark"]


def seam_of(book, one, other):
    ahead = max(base_places(book, one), default=0)
    behind = min(base_places(book, other), default=len(other))
    return (ahead, behind)


# Marks that the other text begins with come to the last whole sign of the one,
# so what lies between the two bases is all that putting them together can change.
def cut_at_seam(book, one, other):
    seam = seam_of(book, one, other)
    between = one[seam[0]:] + other[:seam[1]]
    return (one[:seam[0]], between, other[seam[1]:])


def together(book, one, other):
    cut = cut_at_seam(book, one, other)
    return cut[0] + short_form(book, cut[1]) + cut[2]


def long_together(book, one, other):
    cut = cut_at_seam(book, one, other)
    return cut[0] + long_form(book, cut[1]) + cut[2]
