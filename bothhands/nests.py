"""Stretches within stretches: where they begin and end, their levels, and the base that a text has by itself."""

from bothhands.wholes import kinds_of

BEGINNINGS = ("forein", "backin")


def own_base(book, text):
    depth = 0
    for kind in kinds_of(book, text):
        if kind in BEGINNINGS:
            depth += 1
        elif kind == "out":
            # An end that ends nothing leaves the text where it was.
            depth = max(0, depth - 1)
        elif depth == 0 and kind == "back":
            return 1
        elif depth == 0 and kind == "fore":
            return 0
    return 0


def base_or_own(book, text, base):
    return own_base(book, text) if base is None else base


def level_within(kind, level, most):
    remainder = 0 if kind == "forein" else 1
    least = level + 1
    if least % 2 != remainder:
        least += 1
    return least if least <= most else None


def nests_of(book, text, base, most=20):
    kinds = kinds_of(book, text)
    nests = []
    # Those not ended yet: each one's number among all, and the level ahead of it.
    waiting = []
    level = base
    for at, kind in enumerate(kinds):
        if kind in BEGINNINGS:
            waiting.append((len(nests), level))
            inner = level_within(kind, level, most)
            nests.append((at, len(kinds), inner))
            if inner is not None:
                level = inner
        elif kind == "out" and len(waiting) > 0:
            ended = waiting.pop()
            nest = nests[ended[0]]
            nests[ended[0]] = (nest[0], at, nest[2])
            level = ended[1]
    return nests
