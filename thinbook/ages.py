"""Deeds that tell a new roll: ageing, another rule, pouring together, and all readings at once."""

from thinbook.edges import greater
from thinbook.errors import Backward, NoRule
from thinbook.rolls import begun
from thinbook.rules import same_rules, widths_of


def aged(roll, day):
    """The roll on its own day or a later one."""
    if day < roll.day():
        raise Backward(roll.day())
    new = begun(roll.rule(), day, roll.edges())
    new.take_all(roll)
    return new


def under(roll, rule):
    """The roll under another rule with the same widths."""
    if widths_of(roll.rule()) != widths_of(rule):
        raise NoRule("a rule with other widths")
    new = begun(rule, roll.day(), roll.edges())
    new.take_all(roll)
    return new


def both(one, other):
    """Two rolls of one rule poured together, on the later day."""
    if not same_rules(one.rule(), other.rule()):
        raise NoRule("rolls of unlike rules")
    new = begun(one.rule(), max(one.day(), other.day()), greater(one.edges(), other.edges()))
    new.take_all(one)
    new.take_all(other)
    return new


def roll_of(rule, day, edges, readings):
    """The roll of all these readings (time, value, many) at once."""
    new = begun(rule, day, edges)
    for time, value, many in readings:
        new.put(time, value, many)
    return new
