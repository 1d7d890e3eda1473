"""The desk: books kept by the names of houses, told row by row what to do.

Each row is read to its last word ahead of all else, as what is no row is refused ahead of all else;
then the house's book is looked up, and then it is asked or changed.
"""

from thinbook.books import Book
from thinbook.errors import NoHouse, NoMark, NoRow, NoText
from thinbook.houses import aged_book, book_under, both_books, size
from thinbook.sieves import is_mark, is_name, is_small_word, sieve
from thinbook.texts import read_book, read_number, read_rule, show_book, show_number, show_pair

LONGEST_HOUSE = 8


def check_row(good):
    if not good:
        raise NoRow("what is no row of a desk")


def house_in(word):
    check_row(is_small_word(word, LONGEST_HOUSE))
    return word


def name_in(word):
    check_row(is_name(word))
    return word


def number_in(word):
    try:
        return read_number(word)
    except NoText:
        raise NoRow("a number that is not written so") from None


def time_in(word):
    return None if word == "any" else number_in(word)


def rule_in(words):
    try:
        return read_rule(" ".join(words))
    except NoText:
        raise NoRow("a rule that is not written so, or is none") from None


def sieve_in(words):
    try:
        return sieve(" ".join(words))
    except NoMark:
        raise NoRow("a word of a sieve is a mark, or a - and a mark") from None


def say_begin(desk, words):
    check_row(len(words) >= 3)
    house = house_in(words[0])
    day = number_in(words[1])
    rule = rule_in(words[2:])
    desk.keep(house, Book(rule, day))
    return "ok"


def say_enrol(desk, words):
    check_row(len(words) >= 2)
    house = house_in(words[0])
    name = name_in(words[1])
    marks = words[2:]
    check_row(all([is_mark(mark) for mark in marks]))
    desk.kept(house).enrol(name, marks)
    return "ok"


def say_put(desk, words):
    check_row(len(words) == 4 or len(words) == 5)
    house = house_in(words[0])
    name = name_in(words[1])
    time = number_in(words[2])
    value = number_in(words[3])
    many = number_in(words[4]) if len(words) == 5 else 1
    return "kept" if desk.kept(house).put(name, time, value, many) else "gone"


def say_age(desk, words):
    check_row(len(words) == 2)
    house = house_in(words[0])
    day = number_in(words[1])
    desk.keep(house, aged_book(desk.kept(house), day))
    return "ok"


def say_under(desk, words):
    check_row(len(words) >= 2)
    house = house_in(words[0])
    rule = rule_in(words[1:])
    desk.keep(house, book_under(desk.kept(house), rule))
    return "ok"


def say_pour(desk, words):
    check_row(len(words) == 3)
    houses = [house_in(word) for word in words]
    desk.keep(houses[0], both_books(desk.kept(houses[1]), desk.kept(houses[2])))
    return "ok"


def say_show(desk, words):
    check_row(len(words) == 1)
    return show_book(desk.kept(house_in(words[0])))


def say_size(desk, words):
    check_row(len(words) == 1)
    told = size(desk.kept(house_in(words[0])))
    most = "none" if told[1] is None else show_number(told[1])
    return show_number(told[0]) + " " + most


def say_names(desk, words):
    check_row(len(words) >= 1)
    house = house_in(words[0])
    lets = sieve_in(words[1:])
    return " ".join(desk.kept(house).chosen(lets))


def say_ask(desk, words):
    check_row(len(words) == 5)
    house = house_in(words[0])
    name = name_in(words[2])
    a = time_in(words[3])
    b = time_in(words[4])
    return show_pair(words[1], desk.kept(house).of_name(words[1], name, a, b))


def say_all(desk, words):
    check_row(len(words) >= 4)
    house = house_in(words[0])
    a = time_in(words[2])
    b = time_in(words[3])
    lets = sieve_in(words[4:])
    return show_pair(words[1], desk.kept(house).of_all(words[1], lets, a, b))


def say_steps(desk, words):
    check_row(len(words) >= 5)
    house = house_in(words[0])
    a = number_in(words[2])
    b = number_in(words[3])
    width = number_in(words[4])
    lets = sieve_in(words[5:])
    steps = desk.kept(house).by_steps(words[1], lets, a, b, width)
    return "\n".join([show_number(start) + " " + show_pair(words[1], pair) for start, pair in steps])


def say_report(desk, words):
    check_row(len(words) == 4)
    house = house_in(words[0])
    a = time_in(words[2])
    b = time_in(words[3])
    book = desk.kept(house)
    # Where there are no names none is asked, but it is to be refused all the same.
    book.check_ask(words[1], a)
    names = book.names()
    pairs = [show_pair(words[1], book.of_name(words[1], name, a, b)) for name in names]
    return "\n".join(in_columns(names, pairs))


def in_columns(names, pairs):
    """Lines of a name and a pair each, the names to the left and the pairs to the right."""
    left = max([len(name) for name in names], default=0)
    right = max([len(pair) for pair in pairs], default=0)
    return [name.ljust(left) + " " + pair.rjust(right) for name, pair in zip(names, pairs)]


def say_take(desk, words, text):
    check_row(len(words) == 1)
    desk.keep(house_in(words[0]), read_book(text))
    return "ok"


# What is done with the words behind the first one.
DEEDS = {
    "begin": say_begin,
    "enrol": say_enrol,
    "put": say_put,
    "age": say_age,
    "under": say_under,
    "pour": say_pour,
    "show": say_show,
    "size": say_size,
    "names": say_names,
    "ask": say_ask,
    "all": say_all,
    "steps": say_steps,
    "report": say_report,
}


class Desk:
    """Keeps books by the names of houses."""

    def __init__(self):
        self.kept_books = {}

    def kept(self, house):
        """The book of the house."""
        if house not in self.kept_books:
            raise NoHouse("a house by whose name no book is kept")
        return self.kept_books[house]

    def keep(self, house, book):
        self.kept_books[house] = book

    def say(self, row):
        """Does what the row says, and answers with a text."""
        check_row(isinstance(row, str))
        parts = row.partition("\n")
        words = parts[0].split(" ")
        check_row("" not in words)
        # The row of take alone goes on behind a line feed, and has to.
        if words[0] == "take" and parts[1] == "\n":
            return say_take(self, words[1:], parts[2])
        check_row(words[0] in DEEDS and parts[1] == "")
        deed = DEEDS[words[0]]
        return deed(self, words[1:])
