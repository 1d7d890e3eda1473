"""Measures: what is asked of a stretch, told as the least and the greatest answer that can be.

The known heaps lie in the stretch. Of each part any readings may, of any row of values that makes
it; but among the rows that have the answer at an end there is always its widest one, as no other
row has k readings that sum up to more, or to less.
"""

from thinbook.errors import NoAnswer, NoAsk
from thinbook.whole import lowest_terms
from thinbook.widest import widest


def many_of(heaps):
    return sum([heap[0] for heap in heaps])


def total_of(heaps):
    return sum([heap[1] for heap in heaps])


def least_of_all(heaps):
    return min([heap[2] for heap in heaps])


def greatest_of_all(heaps):
    return max([heap[3] for heap in heaps])


def widest_runs(parts):
    """The runs of the widest rows of all parts, rising."""
    runs = []
    for part in parts:
        runs.extend(widest(part))
    return sorted(runs)


def is_beyond(value, many, total, high):
    """Whether the value draws the mean of so many readings on towards that end."""
    if high:
        return value * many > total
    return value * many < total


def mean_end(known, runs, high):
    """The mean drawn as far towards an end as it goes, by runs that begin at that end."""
    many = many_of(known)
    total = total_of(known)
    for value, times in runs:
        # Where nothing is known a mean needs a reading, and the first run is the best one.
        if many == 0 or is_beyond(value, many, total, high):
            many += times
            total += value * times
    return lowest_terms(total, many)


class Measure:
    """One thing to ask for. Each class under it has told(known, parts), the pair of both ends, and
    takes(value, end, high), whether readings of a part with this value make up that end."""

    def chosen(self, known, parts, high):
        """For each part the runs of its widest row that lie in the stretch at that end."""
        pair = self.told(known, parts)
        end = pair[1] if high else pair[0]
        if end is None:
            raise NoAnswer("there is no reading to show")
        return [self.taken(part, end, high) for part in parts]

    def taken(self, part, end, high):
        return [run for run in widest(part) if self.takes(run[0], end, high)]


class HowMany(Measure):
    """How many readings there are."""

    def told(self, known, parts):
        least = many_of(known)
        return (least, least + many_of(parts))

    def takes(self, value, end, high):
        return high


class Total(Measure):
    """The sum of the values."""

    def told(self, known, parts):
        runs = widest_runs(parts)
        base = total_of(known)
        below = sum([value * many for value, many in runs if value < 0])
        above = sum([value * many for value, many in runs if value > 0])
        return (base + below, base + above)

    def takes(self, value, end, high):
        return value > 0 if high else value < 0


class Least(Measure):
    """The least value."""

    def told(self, known, parts):
        if len(known) == 0 and len(parts) == 0:
            return (None, None)
        low = least_of_all(known + parts)
        # No part need have a reading in the stretch, unless there is none else.
        high = greatest_of_all(parts) if len(known) == 0 else least_of_all(known)
        return (low, high)

    def takes(self, value, end, high):
        return value >= end


class Greatest(Measure):
    """The greatest value."""

    def told(self, known, parts):
        if len(known) == 0 and len(parts) == 0:
            return (None, None)
        low = least_of_all(parts) if len(known) == 0 else greatest_of_all(known)
        high = greatest_of_all(known + parts)
        return (low, high)

    def takes(self, value, end, high):
        return value <= end


class Mean(Measure):
    """The sum divided by how many, as fractions (top, bottom)."""

    def told(self, known, parts):
        if len(known) == 0 and len(parts) == 0:
            return (None, None)
        runs = widest_runs(parts)
        return (mean_end(known, runs, False), mean_end(known, list(reversed(runs)), True))

    def takes(self, value, end, high):
        # A value that is the mean itself leaves it as it is, and is needed where nothing is known.
        top = end[0]
        bottom = end[1]
        return value * bottom >= top if high else value * bottom <= top


def measure(word):
    """What the word asks for."""
    if word == "many":
        return HowMany()
    if word == "sum":
        return Total()
    if word == "least":
        return Least()
    if word == "greatest":
        return Greatest()
    if word == "mean":
        return Mean()
    raise NoAsk("a word that asks for nothing")
