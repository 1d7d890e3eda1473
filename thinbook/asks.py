"""Asks: what rolls still know of a stretch of time, from a on, below b, either of them perhaps None."""

from thinbook.edges import greater_edge
from thinbook.errors import Gone
from thinbook.heaps import heap_of
from thinbook.measures import measure


def times_within(a, b, start, width):
    """How many of the times from start on, below start + width, lie in the stretch."""
    first = start if a is None else max(a, start)
    end = start + width if b is None else min(b, start + width)
    return max(0, end - first)


def is_cut(a, b, start, width):
    within = times_within(a, b, start, width)
    return 0 < within and within < width


def check_begin(edge, a):
    """Refuses a stretch with times below the edge of gone."""
    if edge is not None and (a is None or a < edge):
        raise Gone(edge)


def pieces(roll, a, b):
    """The heaps (many, total, least, greatest) that lie in the stretch, and the parts
    (start, width, heap) of which some times do and some don't."""
    check_begin(roll.edges()[-1], a)
    rows = roll.heaps()
    known = [row[2:] for row in rows if times_within(a, b, row[0], row[1]) == row[1]]
    for time, value, many in roll.young():
        if times_within(a, b, time, 1) == 1:
            known.append(heap_of([(value, many)]))
    parts = [(row[0], row[1], row[2:]) for row in rows if is_cut(a, b, row[0], row[1])]
    return (known, parts)


def greatest_gone(rolls):
    """The greatest of the rolls' edges of gone, or None."""
    edge = None
    for roll in rolls:
        edge = greater_edge(edge, roll.edges()[-1])
    return edge


def pieces_of_all(rolls, a, b):
    """The pieces of each roll."""
    # Ahead of any one roll's own refusal, as the edge to tell is the greatest one.
    check_begin(greatest_gone(rolls), a)
    return [pieces(roll, a, b) for roll in rolls]


def known_heaps(laid):
    """The known heaps of the pieces of several rolls, roll by roll."""
    heaps = []
    for known, parts in laid:
        heaps.extend(known)
    return heaps


def part_heaps(laid):
    """The heaps of the parts of the pieces of several rolls, roll by roll."""
    heaps = []
    for known, parts in laid:
        heaps.extend([part[2] for part in parts])
    return heaps


def asked(word, rolls, a=None, b=None):
    """The pair of the least and the greatest answer that can be, of all the rolls together."""
    ask = measure(word)
    laid = pieces_of_all(rolls, a, b)
    return ask.told(known_heaps(laid), part_heaps(laid))
