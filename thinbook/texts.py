"""Texts: numbers, fractions, pairs, rules and books, written and read."""

from thinbook.books import begun_book
from thinbook.edges import cell_at, edges_at, greater
from thinbook.errors import NoMark, NoName, NoRule, NoText
from thinbook.heaps import can_be
from thinbook.rules import Rule, widths_of

FIGURES = "0123456789"
MOST_FIGURES = 1000


def show_number(number):
    return str(number)


def show_numbers(numbers):
    return " ".join([show_number(number) for number in numbers])


def show_fraction(one):
    """TOP/BOTTOM, or TOP alone."""
    if one[1] == 1:
        return show_number(one[0])
    return show_number(one[0]) + "/" + show_number(one[1])


def show_end(word, end):
    return show_fraction(end) if word == "mean" else show_number(end)


def show_pair(word, pair):
    """LOW..HIGH, or what both are, or none."""
    if pair[0] is None:
        return "none"
    if pair[0] == pair[1]:
        return show_end(word, pair[0])
    return show_end(word, pair[0]) + ".." + show_end(word, pair[1])


def show_rule(rule):
    """AGE:WIDTH for each step, and gone and its number where it is told."""
    words = [show_number(age) + ":" + show_number(width) for age, width in rule.steps()]
    if rule.gone() is not None:
        words.extend(["gone", show_number(rule.gone())])
    return " ".join(words)


def show_edge(edge):
    return "none" if edge is None else show_number(edge)


def rows_of_name(book, name):
    roll = book.own_roll(name)
    rows = [" ".join(["name", name] + book.marks(name))]
    rows.extend(["young " + show_numbers(reading) for reading in roll.young()])
    rows.extend(["heap " + show_numbers(heap) for heap in roll.heaps()])
    return rows


def show_book(book):
    """The rows of the book, with a line feed between two."""
    rows = ["rule " + show_rule(book.rule()), "day " + show_number(book.day())]
    rows.append("edges " + " ".join([show_edge(edge) for edge in book.edges()]))
    for name in book.names():
        rows.extend(rows_of_name(book, name))
    return "\n".join(rows)


def check_good(good):
    # The row is told by those that know it: a number or a rule has none but 0.
    if not good:
        raise NoText(0)


def is_figures(text):
    """Whether these are the figures of a number, without a nought ahead but in 0 itself."""
    if len(text) < 1 or len(text) > MOST_FIGURES:
        return False
    return text == "0" or (text[0] != "0" and all([sign in FIGURES for sign in text]))


def read_number(text):
    check_good(isinstance(text, str))
    check_good(text != "-0")
    check_good(is_figures(text[1:] if text.startswith("-") else text))
    return int(text)


def read_numbers(words, many):
    check_good(len(words) == many)
    return [read_number(word) for word in words]


def read_rule(text):
    check_good(isinstance(text, str))
    words = text.split(" ")
    gone = None
    if len(words) >= 2 and words[-2] == "gone":
        gone = read_number(words[-1])
        words = words[:-2]
    steps = [tuple(read_numbers(word.split(":"), 2)) for word in words]
    try:
        return Rule(steps, gone)
    except NoRule:
        raise NoText(0) from None


def read_edge(word):
    return None if word == "none" else read_number(word)


def check_edges(rule, day, edges):
    own = edges_at(rule, day)
    check_good(len(edges) == len(own))
    # So none is less than the rule's own, nor None where that one is a number.
    check_good(greater(own, edges) == edges)
    numbers = [edge for edge in edges if edge is not None]
    widths = widths_of(rule)
    check_good(all([ahead >= later for ahead, later in zip(numbers, numbers[1:])]))
    check_good(all([edge % width == 0 for edge, width in zip(numbers, widths + widths[-1:])]))


def behind(word, row):
    """What stands in the row behind its first word."""
    check_good(row.startswith(word + " "))
    return row[len(word) + 1:]


def is_rising(things):
    return all([ahead < thing for ahead, thing in zip(things, things[1:])])


class Reader:
    """Reads a book row by row; a row that can't stand behind those ahead of it is refused with NoText."""

    def __init__(self):
        self.kept_rule = None
        self.kept_day = None
        # There from the third row on.
        self.book = None
        # The name whose rows are read, and the last of these rows.
        self.name = None
        self.last_young = None
        self.last_start = None

    def read_row(self, row):
        if self.kept_rule is None:
            self.kept_rule = read_rule(behind("rule", row))
        elif self.kept_day is None:
            self.kept_day = read_number(behind("day", row))
        elif self.book is None:
            self.read_edges(behind("edges", row).split(" "))
        elif row.startswith("young "):
            self.read_young(behind("young", row).split(" "))
        elif row.startswith("heap "):
            self.read_heap(behind("heap", row).split(" "))
        else:
            self.read_name(behind("name", row).split(" "))

    def read_edges(self, words):
        edges = [read_edge(word) for word in words]
        check_edges(self.kept_rule, self.kept_day, edges)
        self.book = begun_book(self.kept_rule, self.kept_day, edges)

    def read_name(self, words):
        name = words[0]
        marks = words[1:]
        check_good(self.name is None or self.name < name)
        check_good(is_rising(marks))
        try:
            self.book.enrol(name, marks)
        except (NoName, NoMark):
            raise NoText(0) from None
        self.name = name
        self.last_young = None
        self.last_start = None

    def read_young(self, words):
        numbers = read_numbers(words, 3)
        reading = (numbers[0], numbers[1])
        check_good(self.name is not None and self.last_start is None)
        check_good(self.last_young is None or self.last_young < reading)
        check_good(numbers[0] >= self.book.edges()[0] and numbers[2] >= 1)
        self.book.put(self.name, numbers[0], numbers[1], numbers[2])
        self.last_young = reading

    def read_heap(self, words):
        numbers = read_numbers(words, 6)
        start = numbers[0]
        width = numbers[1]
        heap = tuple(numbers[2:])
        check_good(self.name is not None)
        check_good(self.last_start is None or self.last_start < start)
        # A young time has a cell, too, of the width 0.
        check_good(width > 0 and cell_at(self.kept_rule, self.book.edges(), start) == (start, width))
        check_good(can_be(heap))
        self.book.own_roll(self.name).take_heap(start, heap)
        self.last_start = start


def read_book(text):
    check_good(isinstance(text, str))
    rows = text.split("\n")
    reader = Reader()
    for line, row in enumerate(rows):
        try:
            reader.read_row(row)
        except NoText:
            raise NoText(line) from None
    if reader.book is None:
        raise NoText(len(rows))
    return reader.book
