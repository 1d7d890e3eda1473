"""Edges: where a rule's steps begin on a day; cells: what a time is poured into."""

from thinbook.errors import NoRule
from thinbook.whole import floored


def gone_cut(rule, day):
    gone = rule.gone()
    if gone is None:
        return None
    return floored(day - gone, rule.steps()[-1][1])


def edges_at(rule, day):
    """The cuts of the rule's steps on that day, and behind them the cut of gone."""
    cuts = [floored(day - age, width) for age, width in rule.steps()]
    return cuts + [gone_cut(rule, day)]


def greater_edge(one, other):
    if one is None:
        return other
    if other is None:
        return one
    return max(one, other)


def greater(one, other):
    """The greater ones of two lists of edges, place by place."""
    if len(one) != len(other):
        raise NoRule("edges of unlike length")
    return [greater_edge(left, right) for left, right in zip(one, other)]


def is_gone(edges, time):
    return edges[-1] is not None and time < edges[-1]


def width_at(rule, edges, time):
    """The width of the last step whose edge is greater than the time, which is not young."""
    widths = [step[1] for step, edge in zip(rule.steps(), edges) if edge > time]
    return widths[-1]


def cell_at(rule, edges, time):
    """The cell (start, width) of a time, (time, 0) of a young one, None of one that is gone."""
    if time >= edges[0]:
        return (time, 0)
    if is_gone(edges, time):
        return None
    width = width_at(rule, edges, time)
    return (floored(time, width), width)
