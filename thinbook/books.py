"""Books: rolls by name, each name with marks, all of one rule and day, with the same edges."""

from thinbook.ages import aged
from thinbook.asks import asked, check_begin
from thinbook.edges import edges_at, greater
from thinbook.errors import NoMark, NoName, NoNumber, TooMany
from thinbook.measures import measure
from thinbook.rolls import begun
from thinbook.sieves import is_mark, is_name

MOST_MARKS = 8
MOST_STARTS = 100


def check_marks(marks):
    if not all([is_mark(mark) for mark in marks]):
        raise NoMark("a mark is one to eight small letters")
    if len(set(marks)) != len(marks):
        raise NoMark("a mark told twice")
    if len(marks) > MOST_MARKS:
        raise NoMark("a name has at most eight marks")


def starts_of(a, b, width):
    """The starts of steps of that width from a on, below b."""
    if width < 1:
        raise NoNumber("a width is 1 or more")
    # Counted ahead of being listed, as there may be far too many to list.
    if (b - a + width - 1) // width > MOST_STARTS:
        raise TooMany("more than a hundred steps")
    return list(range(a, b, width))


class Book:
    """The rolls of names, by a rule, on a day, with edges."""

    def __init__(self, rule, day):
        self.kept_rule = rule
        self.kept_day = day
        self.kept_edges = edges_at(rule, day)
        # Of a name: its marks, sorted.
        self.kept_marks = {}
        # Of a name: its roll.
        self.kept_rolls = {}

    def enrol(self, name, marks=None):
        if not is_name(name) or name in self.kept_rolls:
            raise NoName("no name, or one that is enrolled already")
        told = [] if marks is None else marks
        check_marks(told)
        self.kept_marks[name] = sorted(told)
        self.kept_rolls[name] = begun(self.kept_rule, self.kept_day, self.kept_edges)

    def check_enrolled(self, name):
        if not is_name(name) or name not in self.kept_rolls:
            raise NoName("a name that is not enrolled")

    def own_roll(self, name):
        """The name's roll itself, for those that pour into it or only look at it."""
        self.check_enrolled(name)
        return self.kept_rolls[name]

    def put(self, name, time, value, many=1):
        """Whether the reading is kept; one that is gone is not."""
        return self.own_roll(name).put(time, value, many)

    def chosen(self, lets):
        """The names, sorted, whose marks are let by."""
        return [name for name in self.names() if lets(self.marks(name))]

    def check_ask(self, word, a):
        """Refuses what can't be asked from a on, also where there is no roll to refuse it."""
        measure(word)
        check_begin(self.kept_edges[-1], a)

    def chosen_rolls(self, lets):
        return [self.kept_rolls[name] for name in self.chosen(lets)]

    def of_name(self, word, name, a=None, b=None):
        """The pair that is told of one name from a on, below b."""
        return asked(word, [self.own_roll(name)], a, b)

    def of_all(self, word, lets, a=None, b=None):
        """The pair that is told of all names whose marks are let by, from a on, below b."""
        self.check_ask(word, a)
        return asked(word, self.chosen_rolls(lets), a, b)

    def by_steps(self, word, lets, a, b, width):
        """For each step from a on, below b, its start and the pair that is told of it."""
        starts = starts_of(a, b, width)
        self.check_ask(word, a)
        rolls = self.chosen_rolls(lets)
        return [(start, asked(word, rolls, start, min(start + width, b))) for start in starts]

    def rule(self):
        return self.kept_rule

    def day(self):
        return self.kept_day

    def edges(self):
        return list(self.kept_edges)

    def names(self):
        return sorted(self.kept_rolls)

    def marks(self, name):
        self.check_enrolled(name)
        return list(self.kept_marks[name])

    def roll(self, name):
        """A new roll, the same as the name's."""
        # Ageing tells a new roll, and on its own day it changes nothing.
        return aged(self.own_roll(name), self.kept_day)


def begun_book(rule, day, edges):
    """A book without names, with the greater ones of these edges and of the rule's on that day."""
    book = Book(rule, day)
    book.kept_edges = greater(book.kept_edges, edges)
    return book
