"""The widest row of values that makes a heap, and what some of its readings may sum up to."""

from thinbook.errors import NoNumber


def widest(heap):
    """The row with the fewest values between the least and the greatest one, as runs, rising."""
    many = heap[0]
    least = heap[2]
    greatest = heap[3]
    if least == greatest:
        return [(least, many)]
    # What the total has beyond a row of least values alone makes as many of
    # them the greatest as it can; what is left then lifts one more.
    beyond = heap[1] - many * least
    tops = beyond // (greatest - least)
    lift = beyond % (greatest - least)
    if lift == 0:
        return [(least, many - tops), (greatest, tops)]
    return [(least, many - tops - 1), (least + lift, 1), (greatest, tops)]


def check_k(heap, k):
    if k < 0 or k > heap[0]:
        raise NoNumber("k is from 0 on, up to as many as the heap has")


def sum_of_first(runs, k):
    total = 0
    left = k
    for value, many in runs:
        taken = min(left, many)
        total += value * taken
        left -= taken
    return total


def most_of(heap, k):
    """The greatest sum that k readings of the heap can have."""
    check_k(heap, k)
    return sum_of_first(list(reversed(widest(heap))), k)


def least_of(heap, k):
    """The least sum that k readings of the heap can have."""
    check_k(heap, k)
    return sum_of_first(widest(heap), k)
