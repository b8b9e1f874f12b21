"""Levels: the row of each stretch, the ways that the whole signs of a row get, and their levels."""

from bothhands.nests import base_or_own, nests_of
from bothhands.wholes import kind_of_whole, wholes_of

# Those that have a way before any pair is looked at.
LEADING_KINDS = ("fore", "back", "num")


def way_of_level(level):
    return "fore" if level % 2 == 0 else "back"


def stretch_rows(nests, number, base):
    stretches = [(-1, number, base)] + [nest for nest in nests if nest[2] is not None]
    homes = [0] * number
    # Inner stretches come behind the outer ones, so the last word on what lies within both is theirs.
    for home, stretch in enumerate(stretches):
        for k in range(stretch[0] + 1, stretch[1]):
            homes[k] = home
    rows = [(stretch[2], []) for stretch in stretches]
    for k, home in enumerate(homes):
        rows[home][1].append(k)
    return rows


def leading_ways(kinds, own):
    ways = []
    last = own
    for kind in kinds:
        if kind == "fore" or kind == "back":
            last = kind
        ways.append(last if kind in LEADING_KINDS else None)
    return ways


def pairs_in(book, kinds, bases):
    pairs = []
    waiting = []
    for k, kind in enumerate(kinds):
        if kind == "open":
            waiting.append(k)
        elif kind == "shut":
            fitting = [place for place, at in enumerate(waiting) if book.mate(bases[at]) == bases[k]]
            if len(fitting) > 0:
                pairs.append((waiting[fitting[-1]], k))
                waiting = waiting[:fitting[-1]]
    return pairs


def way_of_pair(ways, pair, own):
    within = [way for way in ways[pair[0] + 1:pair[1]] if way is not None]
    if len(within) == 0:
        return None
    if own in within:
        return own
    ahead = [way for way in ways[:pair[0]] if way is not None]
    return ahead[-1] if len(ahead) > 0 else own


# A pair looks only at the ways that were there ahead of all pairs, so those of
# other pairs go to another list.
def ways_with_pairs(ways, pairs, own):
    found = list(ways)
    for pair in pairs:
        way = way_of_pair(ways, pair, own)
        found[pair[0]] = way
        found[pair[1]] = way
    return found


def last_ways(ways, own):
    found = []
    last = own
    for way in ways:
        if way is not None:
            last = way
        found.append(last)
    return found


# One that has a way is its own neighbour on both sides here, and so keeps it.
def ways_filled(ways, own):
    ahead = last_ways(ways, own)
    behind = list(reversed(last_ways(list(reversed(ways)), own)))
    return [one if one == other else own for one, other in zip(ahead, behind)]


def ways_in_row(book, kinds, bases, own):
    ways = leading_ways(kinds, own)
    pairs = pairs_in(book, kinds, bases)
    return ways_filled(ways_with_pairs(ways, pairs, own), own)


def level_by_way(kind, way, level):
    if kind == "num":
        if level % 2 == 1:
            return level + 1
        return level if way == "fore" else level + 2
    return level if way == way_of_level(level) else level + 1


def levels_in_row(book, row, level):
    kinds = [kind_of_whole(book, whole) for whole in row]
    bases = [whole[0] for whole in row]
    ways = ways_in_row(book, kinds, bases, way_of_level(level))
    return [level_by_way(kind, way, level) for kind, way in zip(kinds, ways)]


def levels_of(book, text, base=None, most=20):
    wholes = wholes_of(book, text)
    lowest = base_or_own(book, text, base)
    levels = [lowest] * len(wholes)
    nests = nests_of(book, text, lowest, most)
    for level, row in stretch_rows(nests, len(wholes), lowest):
        found = levels_in_row(book, [wholes[k] for k in row], level)
        for k, own in zip(row, found):
            levels[k] = own
    return levels
