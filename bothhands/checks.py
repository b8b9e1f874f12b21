"""What a whole number and a sign are, asked of things of any sort."""


def is_whole_number(thing):
    # To Python True and False are ints, too; here they are no whole numbers.
    return isinstance(thing, int) and not isinstance(thing, bool)


def is_sign(thing):
    return is_whole_number(thing) and thing >= 0
