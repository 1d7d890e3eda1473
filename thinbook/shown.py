"""Readings that can be shown: they make the very rolls that are asked, and have the answer at an end."""

from thinbook.asks import known_heaps, part_heaps, pieces_of_all
from thinbook.measures import measure
from thinbook.widest import widest


def at_time(time, runs):
    return [(time, value, many) for value, many in runs]


def left_of(runs, taken):
    """The runs less those that are taken of them."""
    less = dict(taken)
    left = [(value, many - less.get(value, 0)) for value, many in runs]
    return [run for run in left if run[1] > 0]


def time_within(part, a):
    """A time of the part that lies in the stretch, which cuts it."""
    return part[0] if a is None else max(a, part[0])


def time_beyond(part, a):
    """A time of the part that doesn't lie in the stretch, which cuts it."""
    if a is not None and part[0] < a:
        return part[0]
    # So the stretch ends within the part.
    return part[0] + part[1] - 1


def readings_of_part(part, taken, a):
    left = left_of(widest(part[2]), taken)
    return at_time(time_within(part, a), taken) + at_time(time_beyond(part, a), left)


def readings_of_roll(roll, parts, picked, a):
    """Readings that make the roll, those that are picked of each part in the stretch."""
    readings = roll.young()
    cut = {}
    for part, taken in zip(parts, picked):
        readings.extend(readings_of_part(part, taken, a))
        cut[part[0]] = True
    for row in roll.heaps():
        if row[0] not in cut:
            readings.extend(at_time(row[0], widest(row[2:])))
    return readings


def shown(word, rolls, a, b, high):
    """For each roll readings that make it, and together have the answer at that end."""
    ask = measure(word)
    laid = pieces_of_all(rolls, a, b)
    picked = ask.chosen(known_heaps(laid), part_heaps(laid), high)
    told = []
    place = 0
    for roll, piece in zip(rolls, laid):
        behind = place + len(piece[1])
        told.append(readings_of_roll(roll, piece[1], picked[place:behind], a))
        place = behind
    return told
