"""Hands: places in a row and the same places by sight, and going on by sight."""

from bothhands.checks import is_number_to, is_whole_number
from bothhands.errors import NoPlace
from bothhands.orders import order_of


# The words of a refusal don't show the thing itself: some things can't be shown.
def check_place(place, side, number):
    if not is_number_to(place, number) or not is_number_to(side, 1):
        raise NoPlace("a place or gap goes from 0 to the number of things, its side or hand is 0 or 1")


def check_step(step):
    if not is_whole_number(step) or step not in (1, -1):
        raise NoPlace("a step is 1 or -1")


def held_thing(place, side, number):
    thing = place - 1 + side
    return thing if is_number_to(thing, number - 1) else None


# What runs backward has its beginning at the right and its end at the left. This
# is so both ways: from places to sights, and from sights to places.
def side_across(level, side):
    return side if level % 2 == 0 else 1 - side


def edge_of_thing(thing, level, side):
    across = side_across(level, side)
    return (thing + 1 - across, across)


def edge_of_row(number, base, side):
    across = side_across(base, side)
    return (number * across, across)


def sight_of(levels, base, place, side):
    check_place(place, side, len(levels))
    thing = held_thing(place, side, len(levels))
    if thing is None:
        return edge_of_row(len(levels), base, side)
    return edge_of_thing(order_of(levels).index(thing), levels[thing], side)


def place_of(levels, base, gap, hand):
    check_place(gap, hand, len(levels))
    seen = held_thing(gap, hand, len(levels))
    if seen is None:
        return edge_of_row(len(levels), base, hand)
    thing = order_of(levels)[seen]
    return edge_of_thing(thing, levels[thing], hand)


# Who went on holds to what was passed, and so to what is now at the other hand.
def side_behind(step):
    return 0 if step == 1 else 1


def passed(levels, base, place, side, step):
    check_step(step)
    gap = sight_of(levels, base, place, side)[0] + step
    if not is_number_to(gap, len(levels)):
        return None
    return place_of(levels, base, gap, side_behind(step))
