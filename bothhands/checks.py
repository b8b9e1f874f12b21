"""Checks that are asked of things of any sort: of whole numbers, signs, numbers up to another one, and spans."""

from bothhands.errors import NoPlace


def is_whole_number(thing):
    # To Python True and False are ints, too; here they are no whole numbers.
    return isinstance(thing, int) and not isinstance(thing, bool)


def is_sign(thing):
    return is_whole_number(thing) and thing >= 0


def is_number_to(thing, greatest):
    return is_sign(thing) and thing <= greatest


# The words of a refusal don't show the thing itself: some things can't be shown.
def check_span(start, end, number):
    if not is_number_to(end, number) or not is_number_to(start, end):
        raise NoPlace("a span goes from a place that is there up to one that is no less and is there, too")
