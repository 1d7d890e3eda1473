"""Whole numbers, as the other modules need them."""


def is_whole(thing):
    # Python counts True and False among the ints, the book doesn't.
    return isinstance(thing, int) and not isinstance(thing, bool)


def floored(number, width):
    """The greatest multiple of width that is no greater than number."""
    return number // width * width
