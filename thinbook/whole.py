"""Whole numbers, as the other modules need them."""


def is_whole(thing):
    # Python counts True and False among the ints, the book doesn't.
    return isinstance(thing, int) and not isinstance(thing, bool)


def floored(number, width):
    """The greatest multiple of width that is no greater than number."""
    return number // width * width


def greatest_divisor(one, other):
    """The greatest number that divides both, neither of them below nought, nor both nought."""
    while other > 0:
        rest = one % other
        one = other
        other = rest
    return one


def lowest_terms(top, bottom):
    """The fraction (top, bottom), bottom from 1 on, in lowest terms."""
    divisor = greatest_divisor(abs(top), bottom)
    return (top // divisor, bottom // divisor)
