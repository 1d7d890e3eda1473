"""Promises 47 to 52: numbers, fractions, pairs, rules and books, written and read."""

import random
import re
import unittest

from thinbook.books import Book
from thinbook.errors import NoText
from thinbook.houses import aged_book, book_of, book_under, both_books, told
from thinbook.rules import Rule
from thinbook.texts import (read_book, read_number, read_rule, show_book, show_fraction, show_number, show_pair,
                            show_rule)

BIG = 10 ** 40 + 7
THOUSAND = "9" * 1000

STEPS = [(5, 1), (10, 5), (20, 10)]
# The edges of this rule on the day 103 are 98, 90, 80 and, of gone, 60.
RULE = Rule(STEPS, 40)
EVER = Rule(STEPS)
DAY = 103
EIGHT = "a b c d e f g h"
NAMES = [("attic", ["hot"]), ("cellar", []), ("barn", ["wet", "big"])]
READINGS = [("attic", 104, 8, 1), ("attic", 100, 1, 2), ("attic", 100, -1, 1), ("attic", 97, 7, 1),
            ("attic", 86, -4, 3), ("attic", 89, 10, 1), ("attic", 63, 5, 1), ("barn", 101, -2, 1), ("barn", 71, 9, 2)]
TEXT = """rule 5:1 10:5 20:10 gone 40
day 103
edges 98 90 80 60
name attic hot
young 100 -1 1
young 100 1 2
young 104 8 1
heap 60 10 1 5 5 5
heap 85 5 4 -2 -4 10
heap 97 1 1 7 7 7
name barn big wet
young 101 -2 1
heap 70 10 2 18 9 9
name cellar"""
ROWS = TEXT.split("\n")
NO_TEXTS = [None, True, False, 0, 1, -1, [], ["1"], ("1",), (), {}, b"1", b"", object(), RULE, Book(RULE, DAY)]
NO_NUMBERS = ["", "-", "--1", "-0", "+1", "+0", "01", "00", "-01", "007", " 1", "1 ", "1 2", "\n", "1\n", "\n1", "1\t",
              "1_0", "_1", "1_", "1.0", "1.", ".5", "1e3", "0x1", "x", "one", "None", "none", "any", "1-", "1-1",
              "- 1", "1,0", "\u0661", "\u00b2", "\uff11", "1\u0661", "1\0", "True", "-" + "0" * 5]
NO_RULES = ["", " ", ":", "0", "0:", ":1", "0:1 ", " 0:1", "0:1  5:5", "0:1 gone", "0:1 gone ", "gone 5", "gone",
            " gone 5", "0:1 gone 5 ", "0:1 gone  5", "0:1 gone 05", "0:1 gone none", "0:1 gone 5 gone 5",
            "0:1 gone 5 5:5", "0:1 5", "0:1 gone:5", "0 :1", "0: 1", "0:1:1", "00:1", "0:01", "-0:1", "+0:1", "0:1\n",
            "\n0:1", "0:1\n5:5", "0:1,5:5", "0:1 Gone 5", "0;1", "0:1 gone 5 6", "(0, 1)", "rule 0:1", "0:1\t5:5"]
# Written well, but none.
BAD_RULES = ["-1:1", "0:0", "0:-1", "5:1 4:1", "0:2 5:3", "0:2 5:1", "0:1 gone -1", "5:1 gone 4",
             "0:1 0:1 0:1 0:1 0:1 0:1", "0:1 1:1 2:1 3:1 4:1 5:1 gone 9", "1:1 0:1 gone 5", "0:1 5:5 gone 4"]


def filled(rule=RULE):
    return book_of(rule, DAY, [98, 90, 80, None], NAMES, READINGS)


def whole(book):
    return (book.rule().steps(), book.rule().gone(), book.day(), book.edges(), told(book))


NUMBER = "(0|-?[1-9][0-9]{0,999})"


def plain_numbers(pattern, row):
    """The numbers of a row of this pattern, N standing for a number, or None."""
    found = re.fullmatch(pattern.replace("N", NUMBER), row)
    return found and [int(number) for number in found.groups()]


def plain_rule(row):
    if not re.fullmatch("rule N:N( N:N)*( gone N)?".replace("N", NUMBER), row):
        return None
    words = row.split(" ")[1:]
    gone = int(words[-1]) if len(words) > 1 and words[-2] == "gone" else None
    steps = [tuple(int(part) for part in word.split(":")) for word in words if ":" in word]
    ages, widths = [age for age, width in steps], [width for age, width in steps]
    fits = len(steps) <= 5 and ages[0] >= 0 and ages == sorted(ages) and min(widths) >= 1
    fits = fits and all(later % width == 0 for width, later in zip(widths, widths[1:]))
    return (steps, gone) if fits and (gone is None or gone >= ages[-1]) else None


def plain_edges(row, steps, gone, day):
    if not re.fullmatch("edges( N)+( none)?".replace("N", NUMBER), row):
        return None
    edges = [None if word == "none" else int(word) for word in row.split(" ")[1:]]
    widths = [width for age, width in steps] + [steps[-1][1]]
    ages = [age for age, width in steps] + [gone]
    if len(edges) != len(ages) or (edges[-1] is None and gone is not None):
        return None
    for edge, age, width in zip(edges, ages, widths):
        if edge is not None and (edge % width or (age is not None and edge < (day - age) // width * width)):
            return None
    numbers = [edge for edge in edges if edge is not None]
    return edges if numbers == sorted(numbers, reverse=True) else None


def plain_can_be(many, total, least, greatest):
    if many == 1:
        return total == least == greatest
    return many > 1 and least <= greatest and (
        (many - 1) * least + greatest <= total <= least + (many - 1) * greatest)


def plain_is_heap(steps, edges, start, width):
    if start >= edges[0] or (edges[-1] is not None and start < edges[-1]):
        return False
    return width == [step[1] for step, edge in zip(steps, edges) if edge > start][-1] and start % width == 0


def plain_line(text):
    """The first row of a book's text that is not good, or None, by the document's words."""
    rows = text.split("\n")
    rule = plain_rule(rows[0])
    if rule is None:
        return 0
    day = plain_numbers("day N", rows[1]) if len(rows) > 1 else None
    if day is None:
        return 1
    edges = plain_edges(rows[2], rule[0], rule[1], day[0]) if len(rows) > 2 else None
    if edges is None:
        return 2
    name, young, heap = None, None, None
    for line, row in enumerate(rows):
        if line < 3:
            continue
        if re.fullmatch("name [a-z]{1,12}( [a-z]{1,8}){0,8}", row):
            words = row.split(" ")[1:]
            if (name is not None and words[0] <= name) or words[1:] != sorted(set(words[1:])):
                return line
            name, young, heap = words[0], None, None
        elif plain_numbers("young N N N", row):
            time, value, many = plain_numbers("young N N N", row)
            behind = heap is None and (young is None or young < (time, value))
            if name is None or not behind or time < edges[0] or many < 1:
                return line
            young = (time, value)
        elif plain_numbers("heap N N N N N N", row):
            numbers = plain_numbers("heap N N N N N N", row)
            behind = heap is None or heap < numbers[0]
            if name is None or not behind or not plain_is_heap(rule[0], edges, numbers[0], numbers[1]):
                return line
            if not plain_can_be(*numbers[2:]):
                return line
            heap = numbers[0]
        else:
            return line
    return None


class TextCase(unittest.TestCase):
    def check_refused(self, line, deed, thing):
        with self.assertRaises(NoText) as caught:
            deed(thing)
        self.assertIs(type(caught.exception), NoText)
        self.assertEqual(caught.exception.line, line, thing)

    def check_row(self, place, row, line=None):
        """The text with this row in that place, and where it is the bad one also as the last row, is refused."""
        ahead, later = ROWS[:place] + [row], ROWS[place + 1:]
        with self.subTest(row=row):
            self.check_refused(place if line is None else line, read_book, "\n".join(ahead + later))
            if line is None:
                self.check_refused(place, read_book, "\n".join(ahead))

    def check_read(self, text):
        """The text is read to a book that is written so again."""
        book = read_book(text)
        self.assertIsInstance(book, Book)
        self.assertEqual(show_book(book), text)
        return book


class Numbers(TextCase):
    def test_written_and_read(self):
        for number, text in [(0, "0"), (1, "1"), (-1, "-1"), (10, "10"), (-10, "-10"), (907, "907"),
                             (-BIG, "-1" + "0" * 39 + "7")]:
            self.assertEqual(show_number(number), text)
            self.assertEqual(read_number(text), number)
            self.assertIs(type(read_number(text)), int)
        for number in list(range(-1200, 1200)) + [10 ** i for i in range(1000)] + [-10 ** i for i in range(1000)]:
            self.assertEqual(read_number(show_number(number)), number)

    def test_a_thousand_figures(self):
        self.assertEqual(show_number(10 ** 1000 - 1), THOUSAND)
        self.assertEqual(show_number(1 - 10 ** 1000), "-" + THOUSAND)
        self.assertEqual(read_number(THOUSAND), 10 ** 1000 - 1)
        self.assertEqual(read_number("-" + THOUSAND), 1 - 10 ** 1000)

    def test_more_than_a_thousand_figures_are_not_read(self):
        for figures in ("1" + "0" * 1000, "9" * 1001, "9" * 5000):
            self.check_refused(0, read_number, figures)
            self.check_refused(0, read_number, "-" + figures)

    def test_what_is_not_written_so(self):
        for text in NO_NUMBERS:
            with self.subTest(text=text):
                self.check_refused(0, read_number, text)

    def test_no_texts(self):
        for thing in NO_TEXTS:
            with self.subTest(thing=thing):
                self.check_refused(0, read_number, thing)


class FractionsAndPairs(TextCase):
    def test_fractions(self):
        for one, text in [((1, 2), "1/2"), ((-7, 3), "-7/3"), ((5, 1), "5"), ((-5, 1), "-5"), ((0, 1), "0"),
                          ((10, 11), "10/11"), ((1, BIG), "1/" + str(BIG)), ((BIG, 1), str(BIG))]:
            self.assertEqual(show_fraction(one), text)

    def test_fractions_of_a_thousand_figures(self):
        number = 10 ** 1000 - 1
        self.assertEqual(show_fraction((-number, number - 1)), "-" + THOUSAND + "/" + THOUSAND[:-1] + "8")
        self.assertEqual(show_fraction((number, 1)), THOUSAND)

    def test_pairs_of_numbers(self):
        for word in ("many", "sum", "least", "greatest"):
            for pair, text in [((0, 0), "0"), ((1, 2), "1..2"), ((-3, -2), "-3..-2"), ((-3, 4), "-3..4"),
                               ((0, 1), "0..1"), ((-5, -5), "-5"), ((7, 7), "7"), ((None, None), "none"),
                               ((-BIG, BIG), f"-{BIG}..{BIG}"),
                               ((-1, 0), "-1..0"), ((2, 1), "2..1")]:
                self.assertEqual(show_pair(word, pair), text)

    def test_pairs_of_fractions(self):
        for pair, text in [(((1, 2), (1, 2)), "1/2"), (((5, 1), (5, 1)), "5"), (((9, 4), (5, 1)), "9/4..5"),
                           (((-1, 1), (-1, 3)), "-1..-1/3"), (((0, 1), (1, 7)), "0..1/7"), ((None, None), "none"),
                           (((0, 1), (0, 1)), "0"), (((1, 3), (2, 3)), "1/3..2/3"), (((2, 3), (2, 5)), "2/3..2/5")]:
            self.assertEqual(show_pair("mean", pair), text)

    def test_pairs_of_a_thousand_figures(self):
        number = 10 ** 1000 - 1
        self.assertEqual(show_pair("sum", (-number, number)), "-" + THOUSAND + ".." + THOUSAND)
        self.assertEqual(show_pair("mean", ((-number, 1), (number, 1))), "-" + THOUSAND + ".." + THOUSAND)


class Rules(TextCase):
    def test_written_and_read(self):
        for steps, gone, text in [
            ([(0, 1), (60, 60)], 600, "0:1 60:60 gone 600"), ([(0, 1)], None, "0:1"), ([(0, 1)], 0, "0:1 gone 0"),
            (STEPS, 40, "5:1 10:5 20:10 gone 40"), (STEPS, None, "5:1 10:5 20:10"),
            ([(0, BIG)], BIG, f"0:{BIG} gone {BIG}"),
            ([(1, 2), (1, 2), (3, 4), (3, 8), (9, 80)], 9, "1:2 1:2 3:4 3:8 9:80 gone 9"),
        ]:
            self.assertEqual(show_rule(Rule(steps, gone)), text)
            rule = read_rule(text)
            self.assertIsInstance(rule, Rule)
            self.assertEqual((rule.steps(), rule.gone()), (steps, gone))

    def test_a_thousand_figures(self):
        number = 10 ** 1000 - 1
        text = f"0:3 {THOUSAND}:{THOUSAND} gone {THOUSAND}"
        self.assertEqual(read_rule(text).steps(), [(0, 3), (number, number)])
        self.assertEqual(show_rule(read_rule(text)), text)

    def test_what_is_not_written_so(self):
        for text in NO_RULES:
            with self.subTest(text=text):
                self.check_refused(0, read_rule, text)

    def test_a_number_that_is_not_written_so(self):
        for number in NO_NUMBERS:
            for text in (number + ":1", "0:" + number, "0:1 gone " + number, "0:1 " + number + ":1", "0:1 5:" + number):
                with self.subTest(text=text):
                    self.check_refused(0, read_rule, text)

    def test_written_well_but_none(self):
        for text in BAD_RULES:
            with self.subTest(text=text):
                self.check_refused(0, read_rule, text)

    def test_no_texts(self):
        for thing in NO_TEXTS:
            with self.subTest(thing=thing):
                self.check_refused(0, read_rule, thing)

    def test_any_rule_of_small_numbers(self):
        chance = random.Random(5)
        read = 0
        for i in range(3000):
            words = [f"{chance.randint(-1, 3)}:{chance.choice([0, 1, 1, 2, 4])}" for j in range(chance.randint(0, 6))]
            if chance.randint(0, 1):
                words += ["gone", str(chance.randint(-1, 5))]
            text = " ".join(words)
            if plain_rule("rule " + text) is None:
                self.check_refused(0, read_rule, text)
            else:
                self.assertEqual(show_rule(read_rule(text)), text)
                read += 1
        self.assertGreater(read, 100)


class Written(TextCase):
    def test_by_hand(self):
        self.assertEqual(show_book(filled()), TEXT)
        self.assertEqual(plain_line(TEXT), None)

    def test_without_names(self):
        self.assertEqual(show_book(Book(RULE, DAY)), "rule 5:1 10:5 20:10 gone 40\nday 103\nedges 98 90 80 60")
        self.assertEqual(show_book(Book(EVER, -1)), "rule 5:1 10:5 20:10\nday -1\nedges -6 -15 -30 none")

    def test_a_name_without_marks_and_readings(self):
        book = Book(Rule([(0, 1)]), 0)
        book.enrol("a")
        book.enrol("b", ["y", "x"])
        self.assertEqual(show_book(book), "rule 0:1\nday 0\nedges 0 none\nname a\nname b x y")

    def test_edges_that_are_not_the_rule_s_own(self):
        text = show_book(book_under(filled(), Rule([(50, 1), (60, 5), (70, 10)])))
        self.assertEqual(text.split("\n")[:3], ["rule 50:1 60:5 70:10", "day 103", "edges 98 90 80 60"])

    def test_it_changes_nothing(self):
        book = filled()
        ahead = whole(book)
        show_book(book)
        self.assertEqual(whole(book), ahead)


class Read(TextCase):
    def test_by_hand(self):
        self.assertEqual(whole(self.check_read(TEXT)), whole(filled()))

    def test_without_names(self):
        for text in ("rule 0:1\nday 0\nedges 0 none", "rule 0:1 gone 0\nday -5\nedges -5 -5",
                     "rule 5:1 10:5 20:10 gone 40\nday 103\nedges 98 90 80 60"):
            self.assertEqual(self.check_read(text).names(), [])

    def test_eight_marks_and_long_words(self):
        book = self.check_read("\n".join(ROWS[:3]) + f"\nname abcdefghijkl {EIGHT}\nname z abcdefgh")
        self.assertEqual((book.marks("abcdefghijkl"), book.marks("z")), (EIGHT.split(" "), ["abcdefgh"]))

    def test_edges_that_are_not_the_rule_s_own(self):
        for head in ("rule 5:1 10:5 20:10 gone 40", "rule 50:1 60:5 70:10 gone 100", "rule 50:1 60:5 70:10"):
            for edges in ("edges 98 90 80 60", "edges 110 110 110 110", "edges 105 90 80 70", "edges 99 95 80 60"):
                book = self.check_read("\n".join([head, "day 103", edges]))
                self.assertEqual(book.edges(), [int(word) for word in edges.split(" ")[1:]])
        self.assertEqual(self.check_read("rule 5:1\nday 9\nedges 4 none").edges(), [4, None])
        self.assertEqual(self.check_read("rule 5:1\nday 9\nedges 4 4").edges(), [4, 4])

    def test_numbers_of_a_thousand_figures(self):
        number = 10 ** 1000 - 1
        text = (f"rule 0:1 {THOUSAND}:{THOUSAND}\nday {THOUSAND}\nedges {THOUSAND} 0 none\nname a\n"
                f"young {THOUSAND} -{THOUSAND} {THOUSAND}\nheap -{THOUSAND} {THOUSAND} 2 0 -{THOUSAND} {THOUSAND}")
        book = self.check_read(text)
        self.assertEqual(book.roll("a").young(), [(number, -number, number)])
        self.assertEqual(book.roll("a").heaps(), [(-number, number, 2, 0, -number, number)])

    def test_a_book_read_is_put_to_and_aged_as_any(self):
        one, other = read_book(TEXT), filled()
        for book in (one, other):
            book.put("barn", 71, 4)
            book.put("cellar", 100, 4)
            book.enrol("loft", ["dry"])
        self.assertEqual(whole(one), whole(other))
        self.assertEqual(whole(aged_book(one, 120)), whole(aged_book(other, 120)))
        self.assertEqual(whole(both_books(one, read_book(TEXT))), whole(both_books(other, filled())))

    def test_two_books_read_of_one_text_are_apart(self):
        one, other = read_book(TEXT), read_book(TEXT)
        one.put("attic", 100, 1)
        one.put("attic", 86, 1)
        one.enrol("loft")
        self.assertEqual(show_book(other), TEXT)

    def test_no_texts(self):
        for thing in NO_TEXTS:
            with self.subTest(thing=thing):
                self.check_refused(0, read_book, thing)


class BadRows(TextCase):
    def test_a_text_cut_behind_each_of_its_first_rows(self):
        self.check_refused(0, read_book, "")
        self.check_refused(1, read_book, ROWS[0])
        self.check_refused(2, read_book, "\n".join(ROWS[:2]))
        for many in range(3, len(ROWS) + 1):
            self.check_read("\n".join(ROWS[:many]))

    def test_a_line_feed_at_the_end_or_at_the_begin(self):
        for many in range(1, len(ROWS) + 1):
            self.check_refused(many, read_book, "\n".join(ROWS[:many]) + "\n")
            self.check_refused(many, read_book, "\n".join(ROWS[:many]) + "\n\n")
        self.check_refused(0, read_book, "\n")
        self.check_refused(0, read_book, "\n" + TEXT)

    def test_each_row_spoilt(self):
        for place, row in enumerate(ROWS):
            for bad in ("", " ", row + " ", " " + row, row.replace(" ", "  ", 1), row.replace(" ", "\t", 1),
                        row + " x1", row + "\r", row.upper(), row.replace(" ", "", 1), row.split(" ")[0],
                        row.split(" ")[0] + " ",
                        "x " + row, "0", "what 1 2 3"):
                self.check_row(place, bad)

    def test_each_row_left_out_or_twice(self):
        for place in range(len(ROWS)):
            twice = "\n".join(ROWS[:place + 1] + ROWS[place:])
            self.check_refused(place + 1, read_book, twice)
        for place in range(3):
            self.check_refused(place, read_book, "\n".join(ROWS[:place] + ROWS[place + 1:]))
        # Without their name's row these rows can't stand.
        self.check_refused(3, read_book, "\n".join(ROWS[:3] + ROWS[4:]))
        self.check_refused(3, read_book, "\n".join(ROWS[:3] + ROWS[7:]))

    def test_each_number_spoilt(self):
        for place, row in enumerate(ROWS):
            if place == 0 or row.startswith("name"):
                continue
            words = row.split(" ")
            for i in range(1, len(words)):
                for number in NO_NUMBERS:
                    # Behind a line feed there is another row.
                    if "\n" not in number:
                        self.check_row(place, " ".join(words[:i] + [number] + words[i + 1:]))

    def test_a_word_too_many_or_too_few(self):
        for place, row in enumerate(ROWS):
            words = row.split(" ")
            if words[0] != "name":
                self.check_row(place, row + " 1")
                self.check_row(place, row + " " + words[-1])
            if words[0] not in ("name", "rule"):
                self.check_row(place, " ".join(words[:-1]))

    def test_rules(self):
        for text in NO_RULES + BAD_RULES:
            if "\n" not in text:
                self.check_row(0, "rule " + text)

    def test_edges(self):
        for edges in ("98 90 80", "98 90 80 60 60", "98 90 80 none", "97 90 80 60", "98 85 80 60", "98 90 70 60",
                      "98 90 80 50", "98 89 80 60", "98 91 80 60", "98 90 81 60", "98 90 80 61", "98 90 80 65",
                      "98 100 80 60", "98 90 100 60", "98 90 80 90", "none 90 80 60", "98 none 80 60", "98 90 none 60",
                      "98 90 none none", "none none none none", "98,90,80,60", "98 90 80 None", "98 90 80 any",
                      "98 90 80 -0", "98 90 80 60 none"):
            self.check_row(2, "edges " + edges)
        ever = "rule 5:1 10:5 20:10\nday 103\nedges "
        for edges in ("98 90 80", "98 90 80 none none", "98 90 80 81", "98 90 80 90", "98 90 80 65", "97 90 80 none",
                      "98 90 none none", "none", ""):
            self.check_refused(2, read_book, ever + edges)
        for edges in ("98 90 80 none", "98 90 80 80", "98 90 80 -1000", "98 90 80 0"):
            self.check_read(ever + edges)

    def test_names_and_marks(self):
        for name in ("Attic", "attic1", "abcdefghijklm", "-attic", "", "att\u00efc", "1", "attic-hot"):
            self.check_row(3, "name " + name)
            self.check_row(10, "name " + name)
            self.check_row(13, "name " + name)
        # Names that don't rise, at a middle and at the last row.
        for name in ("attic", "atti", "aa", "a"):
            self.check_row(10, "name " + name)
            self.check_row(13, "name " + name)
        self.check_row(13, "name barn")
        self.check_row(10, "name cellar", 13)
        self.check_row(10, "name cellas", 13)
        for marks in ("Hot", "hot hot", "wet hot", "abcdefghi", "-hot", EIGHT + " i", EIGHT + " h", "b " + EIGHT[2:],
                      "a c b", "hot ", " hot", "hot  wet", "1", ""):
            for place, name in [(3, "attic"), (10, "barn"), (13, "cellar")]:
                self.check_row(place, "name " + name + " " + marks)

    def test_young_ones(self):
        for row in ("97 1 1", "60 1 1", "-1 1 1", "100 1 0", "100 1 -1", "100 1", "100 1 1 1", "100 1 x"):
            for place in (4, 11):
                self.check_row(place, "young " + row)
        # Not rising by time, then by value.
        for row in ("100 -1 1", "100 -2 1", "99 9 1", "100 -1 2"):
            self.check_row(5, "young " + row)
        self.check_row(6, "young 100 1 1")
        self.check_row(6, "young 100 0 1")
        for row in ("young 98 -50 1", "young 98 0 3"):
            self.check_read(TEXT.replace("young 100 -1 1", row))

    def test_young_ones_stand_ahead_of_heaps(self):
        for place in (8, 9, 13):
            self.check_row(place, "young 110 1 1")
        text = "\n".join(ROWS[:10] + ["young 110 1 1"])
        self.check_refused(10, read_book, text)
        # The next name begins anew.
        self.check_read("\n".join(ROWS[:12]))

    def test_heaps(self):
        for cell in ("60 5", "65 10", "65 5", "61 10", "50 10", "60 0", "60 1", "80 10", "81 5", "86 5", "90 5", "90 2",
                     "97 5", "98 1", "98 0", "100 0", "100 1", "100 10", "60 -10", "-60 10"):
            for place in (7, 12):
                self.check_row(place, "heap " + cell + " 1 5 5 5")
        # Those that can't be.
        for heap in ("0 0 0 0", "-1 5 5 5", "1 5 5 6", "1 5 4 5", "1 4 5 5", "2 9 2 8", "2 9 8 2", "3 10 5 5",
                     "3 9 1 8", "3 18 1 8"):
            for place, cell in [(7, "60 10"), (8, "85 5"), (9, "97 1"), (12, "70 10")]:
                self.check_row(place, "heap " + cell + " " + heap)
        for heap in ("3 10 1 8", "3 17 1 8", "2 10 2 8", "3 15 5 5"):
            self.check_read(TEXT.replace("60 10 1 5 5 5", "60 10 " + heap))

    def test_heaps_rise_by_their_starts(self):
        self.check_row(8, "heap 60 10 4 -2 -4 10")
        self.check_row(9, "heap 85 5 1 7 7 7")
        self.check_row(9, "heap 80 5 1 7 7 7")
        self.check_row(9, "heap 70 10 1 7 7 7")
        self.check_row(7, "heap 85 5 1 7 7 7", 8)
        self.check_row(7, "heap 97 1 1 7 7 7", 8)

    def test_the_first_of_several_bad_rows(self):
        for first in range(len(ROWS)):
            for second in range(first + 1, len(ROWS)):
                rows = list(ROWS)
                rows[first] = rows[second] = "bad"
                self.check_refused(first, read_book, "\n".join(rows))


def spoilt(chance, text):
    """The text with a little change of its rows, words or signs."""
    rows = text.split("\n")
    place = chance.randrange(len(rows))
    words = rows[place].split(" ")
    i = chance.randrange(len(words))
    change = chance.randint(0, 8)
    if change == 0:
        rows.pop(place)
    elif change == 1:
        rows.insert(place, chance.choice(rows))
    elif change == 2:
        other = chance.randrange(len(rows))
        rows[place], rows[other] = rows[other], rows[place]
    elif change == 3:
        words[i] = chance.choice(text.split())
    elif change == 4:
        words.pop(i)
    elif change == 5:
        words.insert(i, chance.choice(text.split()))
    elif re.fullmatch("-?[0-9]+", words[i]):
        words[i] = str(int(words[i]) + chance.choice([-10, -5, -1, 1, 2, 5, 10]))
    else:
        at = chance.randrange(len(words[i]) + 1)
        words[i] = words[i][:at] + chance.choice(" -0:az\n") + words[i][at + chance.randint(0, 1):]
    if change > 2:
        rows[place] = " ".join(words)
    return "\n".join(rows)


def any_book(chance):
    steps = chance.choice([STEPS, [(0, 1)], [(2, 3), (2, 3), (7, 12)], [(0, 4)]])
    gone = chance.choice([None, steps[-1][0], steps[-1][0] + 30])
    book = Book(Rule(steps, gone), chance.randint(-20, 20))
    for name in chance.sample(["a", "ab", "b", "cellar"], chance.randint(0, 3)):
        book.enrol(name, chance.sample(["hot", "wet", "big", "a"], chance.randint(0, 3)))
        for i in range(chance.randint(0, 12)):
            book.put(name, book.day() + chance.randint(-40, 4), chance.randint(-5, 5), chance.randint(1, 2))
    if chance.randint(0, 1):
        book = book_under(book, Rule([(age + 9, width) for age, width in steps]))
    return aged_book(book, book.day() + chance.choice([0, 0, 3, 15]))


class Again(TextCase):
    def test_what_is_written_is_read_again(self):
        chance = random.Random(21)
        for i in range(400):
            book = any_book(chance)
            text = show_book(book)
            self.assertIsNone(plain_line(text), text)
            self.assertEqual(whole(self.check_read(text)), whole(book))

    def test_texts_that_are_spoilt(self):
        chance = random.Random(22)
        read = 0
        for i in range(6000):
            text = show_book(any_book(chance)) if i % 10 else TEXT
            for j in range(chance.randint(1, 2)):
                text = spoilt(chance, text)
            line = plain_line(text)
            if line is None:
                self.check_read(text)
                read += 1
            else:
                self.check_refused(line, read_book, text)
        self.assertTrue(300 < read < 5700, read)


if __name__ == "__main__":
    unittest.main()
