"""What a whole number, a sign, a number up to another one and a span are, asked of things of any sort."""


def is_whole_number(thing):
    # To Python True and False are ints, too; here they are no whole numbers.
    return isinstance(thing, int) and not isinstance(thing, bool)


def is_sign(thing):
    return is_whole_number(thing) and thing >= 0


def is_number_to(thing, greatest):
    return is_sign(thing) and thing <= greatest


def is_span(start, end, number):
    return is_number_to(end, number) and is_number_to(start, end)
