"""Deeds that tell a new book: ageing, another rule, pouring together, and all readings at once."""

from thinbook.books import begun_book
from thinbook.edges import greater
from thinbook.errors import Backward, NoRule
from thinbook.rules import same_rules, widths_of


def moved(book, rule, day):
    """The book on that day by that rule, whose widths are the book's own."""
    new = begun_book(rule, day, book.edges())
    for name in book.names():
        new.enrol(name, book.marks(name))
        new.own_roll(name).take_all(book.own_roll(name))
    return new


def aged_book(book, day):
    """The book on its own day or a later one."""
    if day < book.day():
        raise Backward(book.day())
    return moved(book, book.rule(), day)


def book_under(book, rule):
    """The book under another rule with the same widths."""
    if widths_of(book.rule()) != widths_of(rule):
        raise NoRule("a rule with other widths")
    return moved(book, rule, book.day())


def both_books(one, other):
    """Two books of one rule poured together, on the later day."""
    if not same_rules(one.rule(), other.rule()):
        raise NoRule("books of unlike rules")
    new = begun_book(one.rule(), max(one.day(), other.day()), greater(one.edges(), other.edges()))
    for name in sorted(set(one.names() + other.names())):
        holders = [book for book in (one, other) if name in book.names()]
        marks = []
        for book in holders:
            marks.extend(book.marks(name))
        new.enrol(name, sorted(set(marks)))
        for book in holders:
            new.own_roll(name).take_all(book.own_roll(name))
    return new


def book_of(rule, day, edges, names, readings):
    """The book of all these names (name, marks) and readings (name, time, value, many) at once."""
    new = begun_book(rule, day, edges)
    for name, marks in names:
        new.enrol(name, marks)
    for name, time, value, many in readings:
        new.put(name, time, value, many)
    return new


def told(book):
    """Tuples (name, marks, young, heaps), sorted by the names."""
    rows = []
    for name in book.names():
        roll = book.own_roll(name)
        rows.append((name, book.marks(name), roll.young(), roll.heaps()))
    return rows


def size(book):
    """How many heaps the book has, and how many it has at most, None without gone."""
    names = book.names()
    heaps = sum([len(book.own_roll(name).heaps()) for name in names])
    room = book.rule().room()
    return (heaps, None if room is None else room * len(names))
