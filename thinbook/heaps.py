"""Heaps (many, total, least, greatest): what is still known of readings that are no longer whole."""

from thinbook.whole import is_whole


def heap_of(runs):
    """The heap of the readings of all runs (value, many), None of no runs."""
    if len(runs) == 0:
        return None
    values = [value for value, many in runs]
    how_many = sum([many for value, many in runs])
    total = sum([value * many for value, many in runs])
    return (how_many, total, min(values), max(values))


def poured(one, other):
    """The heap of the readings of both."""
    return (one[0] + other[0], one[1] + other[1], min(one[2], other[2]), max(one[3], other[3]))


def is_four_numbers(thing):
    return isinstance(thing, tuple) and len(thing) == 4 and all([is_whole(part) for part in thing])


def can_be(thing):
    """Whether there are readings with whole values that make this heap."""
    if not is_four_numbers(thing):
        return False
    many = thing[0]
    total = thing[1]
    least = thing[2]
    greatest = thing[3]
    if many < 1 or least > greatest:
        return False
    # One reading has the least value and one the greatest, the others may have
    # either; where many is 1 it is one reading, so all three have to be the same.
    others = many - 1
    return others * least + greatest <= total and total <= least + others * greatest
