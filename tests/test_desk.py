"""Promise 53: the desk, each of its rows, and what it refuses."""

import random
import unittest

from thinbook.books import Book
from thinbook.desk import Desk
from thinbook.errors import (Backward, BookError, Gone, NoAsk, NoHouse, NoMark, NoName, NoNumber, NoRow, NoRule, NoText,
                             TooMany)
from thinbook.houses import aged_book, book_under, both_books, size
from thinbook.rules import Rule
from thinbook.sieves import sieve
from thinbook.texts import read_book, read_rule, show_book, show_pair

WORDS = ["many", "sum", "least", "greatest", "mean"]
HOUSES = ["one", "two", "three", "abcdefgh", "h"]
# The edges of this rule on the day 103 are 98, 90, 80 and, of gone, 60.
RULE = "5:1 10:5 20:10 gone 40"
THOUSAND = "9" * 1000
EIGHT = "a b c d e f g h"
SETTING = [
    f"begin one 103 {RULE}", "enrol one attic hot", "enrol one cellar", "enrol one barn wet big",
    "put one attic 100 1 2", "put one attic 104 8", "put one attic 86 -4 3", "put one attic 89 10",
    "put one attic 63 5", "put one barn 101 -2", "put one barn 71 9 2",
    f"begin two 110 {RULE}", "enrol two loft hot", "enrol two attic dry", "put two loft 106 3",
]
ONE = """rule 5:1 10:5 20:10 gone 40
day 103
edges 98 90 80 60
name attic hot
young 100 1 2
young 104 8 1
heap 60 10 1 5 5 5
heap 85 5 4 -2 -4 10
name barn big wet
young 101 -2 1
heap 70 10 2 18 9 9
name cellar"""
# One good row of each form, and such with as many words as can be left out or added.
GOOD = [
    "begin h 0 0:1", f"begin one -5 {RULE}", "enrol one loft", "enrol one loft hot wet", "put one attic 100 -1",
    "put one attic 59 -1 7", "age one 103", "age one 120", "under one 0:1 0:5 0:10", "pour three one two",
    "pour one one one", "show one", "size one", "names one", "names one hot -wet", "ask one sum attic 60 any",
    "ask one mean barn 75 80", "all one sum 60 any", "all one many 61 87 -hot wet", "steps one sum 60 90 10",
    "steps one mean 60 90 10 hot -wet", "report one greatest 60 any", "report one sum 62 103",
]
# Those whose last word may have no more words behind it.
CLOSED = [row for row in GOOD if row.split(" ")[0] in ("age", "pour", "show", "size", "ask", "report")]
NO_NUMBERS = ["-0", "+1", "01", "1_0", "1.0", "x", "none", "-", "1e3", "9" * 1001, "\u0661"]
NO_HOUSES = ["One", "abcdefghi", "one1", "-one", "\u00f6ne", "1"]
NO_NAMES = ["Attic", "abcdefghijklm", "attic1", "-attic", "1"]
NO_MARKS = ["Hot", "abcdefghi", "hot1", "--hot", "-", "1"]


def set_up():
    desk = Desk()
    for row in SETTING:
        desk.say(row)
    return desk


def state(desk):
    """The books of all houses of these tests."""
    books = {}
    for house in HOUSES:
        try:
            books[house] = desk.say("show " + house)
        except NoHouse:
            pass
    return books


class DeskCase(unittest.TestCase):
    def check_refused(self, kind, desk, row):
        ahead = state(desk)
        with self.subTest(row=row):
            with self.assertRaises(kind) as caught:
                desk.say(row)
            self.assertIs(type(caught.exception), kind)
            self.assertEqual(state(desk), ahead)
            return caught.exception

    def check_said(self, desk, rows):
        for row, answer in rows:
            with self.subTest(row=row):
                self.assertEqual(desk.say(row), answer)


class Said(DeskCase):
    def test_the_rows_of_these_tests(self):
        desk = Desk()
        answers = [desk.say(row) for row in SETTING]
        self.assertEqual(answers, ["ok"] * 4 + ["kept"] * 7 + ["ok"] * 3 + ["kept"])
        self.assertEqual(desk.say("show one"), ONE)
        self.assertEqual(sorted(state(desk)), ["one", "two"])

    def test_each_good_row(self):
        for row in GOOD:
            self.assertIs(type(set_up().say(row)), str, row)

    def test_begin(self):
        desk = Desk()
        self.check_said(desk, [
            ("begin h 0 0:1", "ok"), ("show h", "rule 0:1\nday 0\nedges 0 none"),
            ("begin abcdefgh -7 0:1 60:60 gone 600", "ok"),
            ("show abcdefgh", "rule 0:1 60:60 gone 600\nday -7\nedges -7 -120 -660"),
        ])

    def test_begin_takes_the_place_of_a_book(self):
        desk = set_up()
        two = desk.say("show two")
        self.check_said(desk, [("begin one 5 0:1", "ok"), ("show one", "rule 0:1\nday 5\nedges 5 none"),
                               ("show two", two)])

    def test_enrol(self):
        desk = Desk()
        self.check_said(desk, [
            ("begin h 0 0:1", "ok"), ("enrol h abcdefghijkl wet abcdefgh", "ok"), ("enrol h b", "ok"),
            ("enrol h a h g f e d c b a", "ok"),
            ("show h", f"rule 0:1\nday 0\nedges 0 none\nname a {EIGHT}\nname abcdefghijkl abcdefgh wet\nname b"),
        ])

    def test_put(self):
        desk = Desk()
        self.check_said(desk, [
            ("begin h 103 " + RULE, "ok"), ("enrol h a", "ok"), ("put h a 59 1", "gone"), ("put h a 59 1 5", "gone"),
            ("put h a 60 1", "kept"), ("put h a 61 -7 2", "kept"), ("put h a 98 0", "kept"), ("put h a 98 0 3", "kept"),
            ("show h", "rule " + RULE + "\nday 103\nedges 98 90 80 60\nname a\nyoung 98 0 4\nheap 60 10 3 -13 -7 1"),
        ])

    def test_age_and_under(self):
        desk = set_up()
        book = read_book(ONE)
        self.check_said(desk, [("age one 103", "ok"), ("show one", ONE), ("age one 112", "ok")])
        book = aged_book(book, 112)
        self.assertEqual(desk.say("show one"), show_book(book))
        rule = Rule([(0, 1), (0, 5), (0, 10)])
        self.check_said(desk, [("under one 0:1 0:5 0:10", "ok"), ("show one", show_book(book_under(book, rule)))])

    def test_pour(self):
        desk = set_up()
        one, two = read_book(ONE), read_book(desk.say("show two"))
        ahead = state(desk)
        self.check_said(desk, [("pour three one two", "ok"), ("show three", show_book(both_books(one, two)))])
        self.assertEqual({house: text for house, text in state(desk).items() if house != "three"}, ahead)
        # Nothing in common with those that it came of.
        self.check_said(desk, [("put three attic 109 1", "kept"), ("enrol three new", "ok")])
        self.assertEqual({house: text for house, text in state(desk).items() if house != "three"}, ahead)
        three = desk.say("show three")
        self.check_said(desk, [("put one attic 109 1", "kept"), ("put two attic 70 1", "kept"), ("show three", three)])

    def test_pour_into_its_own_place(self):
        desk = set_up()
        one, two = read_book(ONE), read_book(desk.say("show two"))
        self.check_said(desk, [
            ("pour one one one", "ok"), ("show one", show_book(both_books(one, one))),
            ("pour two one two", "ok"), ("show two", show_book(both_books(both_books(one, one), two))),
            ("show one", show_book(both_books(one, one))),
        ])

    def test_take(self):
        desk = set_up()
        two = desk.say("show two")
        self.check_said(desk, [
            ("take three\n" + ONE, "ok"), ("show three", ONE), ("take two\n" + ONE, "ok"), ("show two", ONE),
            ("take two\nrule 0:1\nday 5\nedges 5 none", "ok"), ("show two", "rule 0:1\nday 5\nedges 5 none"),
            ("take one\n" + two, "ok"), ("show one", two), ("put one loft 106 1", "kept"),
        ])
        self.assertEqual(desk.say("show three"), ONE)

    def test_size(self):
        desk = set_up()
        self.check_said(desk, [("size one", "3 42"), ("size two", "0 28"), ("under one 5:1 10:5 20:10", "ok"),
                               ("size one", "3 none"), ("begin h 0 0:1", "ok"), ("size h", "0 none"),
                               ("begin h 0 0:1 gone 1", "ok"), ("size h", "0 0")])

    def test_names(self):
        desk = set_up()
        self.check_said(desk, [
            ("names one", "attic barn cellar"), ("names one hot", "attic"), ("names one -hot", "barn cellar"),
            ("names one wet big", "barn"), ("names one -wet -hot", "cellar"), ("names one dry", ""),
            ("names one hot -hot", ""), ("begin h 0 0:1", "ok"), ("names h", ""), ("names h -hot", ""),
        ])

    def test_ask(self):
        desk = set_up()
        self.check_said(desk, [
            ("ask one many attic 60 any", "8"), ("ask one sum attic 86 101", "-10..12"),
            ("ask one least attic 60 63", "5"), ("ask one mean attic 85 90", "-1/2"),
            ("ask one mean attic 86 90", "-4..10"), ("ask one many barn 71 80", "0..2"),
            ("ask one mean attic 85 105", "8/7"), ("ask one least cellar 60 any", "none"),
            ("ask one mean cellar 60 any", "none"), ("ask one sum cellar 60 any", "0"),
            ("ask one many attic 100 100", "0"), ("ask one mean barn 75 102", "-2..16/3"),
            ("ask one many attic 60 -5", "0"), ("under one 5:1 10:5 20:10", "ok"), ("begin h 0 0:1", "ok"),
            ("enrol h any", "ok"), ("put h any -5 2", "kept"), ("put h any 5 3", "kept"),
            ("ask h sum any any any", "5"), ("ask h sum any any 0", "2"), ("ask h sum any 0 any", "3"),
        ])

    def test_all(self):
        desk = set_up()
        self.check_said(desk, [
            ("all one many 60 any", "11"), ("all one many 60 any hot", "8"), ("all one many 60 any -hot", "3"),
            ("all one sum 75 88", "-12..28"), ("all one greatest 60 any wet big", "9"),
            ("all one mean 60 any dry", "none"), ("all one many 60 any dry", "0"), ("all one sum 60 any hot -hot", "0"),
            ("all one mean 98 any", "2"), ("all one mean 98 any hot", "10/3"), ("begin h 0 0:1", "ok"),
            ("all h least any any", "none"), ("all h many any any hot", "0"),
        ])

    def test_steps(self):
        desk = set_up()
        self.check_said(desk, [
            ("steps one many 60 90 10", "60 1\n70 2\n80 4"), ("steps one many 60 88 10", "60 1\n70 2\n80 0..4"),
            ("steps one mean 60 90 10 hot", "60 5\n70 none\n80 -1/2"), ("steps one many 60 60 1", ""),
            ("steps one many 70 60 1", ""), ("steps one sum 60 61 100 -hot", "60 0"),
            ("steps one sum 85 88 2", "85 -12..10\n87 -12..10"), ("begin h 0 0:1", "ok"),
            ("steps h many -2 1 1", "-2 0\n-1 0\n0 0"), ("steps h mean -2 0 1", "-2 none\n-1 none"),
        ])
        self.assertEqual(len(desk.say("steps one many 60 160 1").split("\n")), 100)

    def test_report(self):
        desk = set_up()
        self.check_said(desk, [
            ("report one many 60 any", "attic  8\nbarn   3\ncellar 0"),
            ("report one sum 75 any", "attic       8\nbarn   -2..16\ncellar      0"),
            ("report one mean 85 any", "attic   8/7\nbarn     -2\ncellar none"),
            ("report one least 86 90", "attic  -4..10\nbarn     none\ncellar   none"),
            ("report two many 80 any", "attic 0\nloft  1"), ("report two many 80 80", "attic 0\nloft  0"),
            ("begin h 0 0:1", "ok"), ("report h many any any", ""), ("report h mean 5 1", ""),
            ("enrol h abcdefghijkl", "ok"), ("report h many any any", "abcdefghijkl 0"), ("enrol h z", "ok"),
            ("put h z 0 -12 10", "kept"), ("report h sum any any", "abcdefghijkl    0\nz            -120"),
        ])

    def test_numbers_of_a_thousand_figures(self):
        desk = Desk()
        self.check_said(desk, [
            ("begin h -" + THOUSAND + " 0:1 gone " + THOUSAND, "ok"), ("enrol h a", "ok"),
            ("put h a " + THOUSAND + " -" + THOUSAND, "kept"), ("ask h sum a " + THOUSAND + " any", "-" + THOUSAND),
            ("put h a 0 1 " + THOUSAND, "kept"), ("ask h many a 0 1", THOUSAND), ("age h " + THOUSAND, "ok"),
            ("steps h many 0 " + THOUSAND + " " + THOUSAND, "0 " + THOUSAND),
        ])
        text = desk.say("show h")
        self.check_said(desk, [("take one\n" + text, "ok"), ("show one", text)])

    def test_two_desks_have_nothing_in_common(self):
        one, other = set_up(), Desk()
        self.assertEqual(state(other), {})
        other.say("begin one 0 0:1")
        self.assertEqual(one.say("show one"), ONE)


class NoRows(DeskCase):
    def check_no_row(self, row):
        """It is no row, of a desk with these books as of one without."""
        self.check_refused(NoRow, self.desk, row)
        self.check_refused(NoRow, Desk(), row)

    def setUp(self):
        self.desk = set_up()

    def test_no_texts(self):
        for thing in (None, True, 0, [], ["show one"], ("show", "one"), b"show one", {}, object()):
            self.check_no_row(thing)

    def test_other_words(self):
        for row in ("", " ", "\n", "show", "what one", "Show one", "SHOW one", "showone", "shows one", "ok", "one",
                    "one show", "taken one\n" + ONE, "begin", "take", "put", "all", "say show one", "keep one"):
            self.check_no_row(row)

    def test_blanks(self):
        for row in GOOD:
            for bad in (row + " ", " " + row, row.replace(" ", "  ", 1), "  ".join(row.rsplit(" ", 1)),
                        row.replace(" ", "  "), row.replace(" ", "\t", 1), row + "\t", row.replace(" ", "", 1)):
                self.check_no_row(bad)

    def test_line_feeds(self):
        for row in GOOD:
            for bad in (row + "\n", "\n" + row, row.replace(" ", "\n", 1), row.replace(" ", " \n", 1), row + "\n" + ONE,
                        row + "\nshow one", "\n".join(row.rsplit(" ", 1)), row + "\r"):
                self.check_no_row(bad)
        for row in ("all one su\nm 60 any", "ask one \n attic 60 any", "report one sum\n 60 any",
                    "steps one \nsum 60 90 10"):
            self.check_no_row(row)

    def test_a_word_too_many(self):
        for row in CLOSED:
            for word in ("1", "one", "any", "hot", "-hot"):
                self.check_no_row(row + " " + word)
        for row in ("put one attic 100 -1 1 1", "put one attic 100 -1 1 hot", "begin h 0 0:1 0", "begin h 0 0 0:1",
                    "enrol one loft hot 1", "under one 0:1 1", "begin h 0 0:1 gone 5 5", "begin h 0 0:1 gone 5 gone 5",
                    "names one hot 1", "all one sum 60 any 70", "steps one sum 60 90 10 10", "all one sum 60 70 any 1"):
            self.check_no_row(row)

    def test_a_word_too_few(self):
        for row in ("begin", "begin h", "begin h 0", "begin h 0:1", "begin 0 0:1", "enrol", "enrol one", "put",
                    "put one", "put one attic", "put one attic 100", "put one 100 1", "put attic 100 1 1", "age",
                    "age one", "age 120", "under", "under one", "under 0:1", "pour", "pour one", "pour one two", "show",
                    "size", "names", "ask", "ask one", "ask one sum", "ask one sum attic", "ask one sum attic 60",
                    "ask one sum 60 any", "ask one attic 60 any", "all", "all one", "all one sum", "all one sum 60",
                    "all one 60 any", "steps", "steps one", "steps one sum", "steps one sum 60", "steps one sum 60 90",
                    "steps one sum 60 90 hot", "report", "report one", "report one sum", "report one sum 60",
                    "report one 60 any", "begin h 0 gone 5"):
            self.check_no_row(row)

    def test_what_is_no_house(self):
        for house in NO_HOUSES:
            for row in GOOD:
                words = row.split(" ")
                self.check_no_row(" ".join([words[0], house] + words[2:]))
            for row in (f"pour three {house} two", f"pour three one {house}", f"take {house}\n{ONE}",
                        f"take {house}\nbad"):
                self.check_no_row(row)

    def test_what_is_no_name(self):
        for name in NO_NAMES:
            for row in (f"enrol one {name}", f"enrol one {name} hot", f"put one {name} 100 1",
                        f"put one {name} 100 1 2", f"ask one sum {name} 60 any", f"ask one what {name} 60 any"):
                self.check_no_row(row)

    def test_what_is_no_mark(self):
        for mark in NO_MARKS:
            for row in (f"enrol one loft {mark}", f"enrol one loft hot {mark}", f"enrol one attic {mark}",
                        f"names one {mark}", f"names one hot {mark}", f"names one -{mark}",
                        f"all one sum 60 any {mark}", f"all one sum 60 any -{mark}", f"all one what 60 any hot {mark}",
                        f"steps one sum 60 90 10 {mark}", f"steps one sum 60 90 10 hot -{mark}"):
                self.check_no_row(row)
        self.check_no_row("enrol one loft -hot")

    def test_what_is_no_number(self):
        for number in NO_NUMBERS + ["any"]:
            for row in (f"begin h {number} 0:1", f"begin h 0 {number}:1", f"begin h 0 0:{number}",
                        f"begin h 0 0:1 gone {number}", f"put one attic {number} 1", f"put one attic 100 {number}",
                        f"put one attic 100 1 {number}", f"put one attic {number} 1 1", f"age one {number}",
                        f"under one {number}:1", f"under one 0:1 gone {number}", f"steps one sum {number} 90 10",
                        f"steps one sum 60 {number} 10", f"steps one sum 60 90 {number}"):
                self.check_no_row(row)
        for number in NO_NUMBERS + ["Any", "anyy"]:
            for row in (f"ask one sum attic {number} any", f"ask one sum attic 60 {number}",
                        f"all one sum {number} any", f"all one sum 60 {number}", f"report one sum {number} any",
                        f"report one sum 60 {number}"):
                self.check_no_row(row)

    def test_what_is_no_rule(self):
        for rule in ("0", "0:1 gone", "gone 5", "0:1,1:1", "5:1 4:1", "0:2 5:3", "-1:1", "0:0", "0:1 gone -1",
                     "5:1 gone 4", "0:1 0:1 0:1 0:1 0:1 0:1", "rule 0:1"):
            self.check_no_row(f"begin h 0 {rule}")
            self.check_no_row(f"begin one 0 {rule}")
            self.check_no_row(f"under one {rule}")

    def test_take(self):
        for row in ("take", "take one", "take one ", "take", "take\n" + ONE, "take \n" + ONE, "take one \n" + ONE,
                    "take  one\n" + ONE, " take one\n" + ONE, "take one two\n" + ONE, "take one " + ONE,
                    "take one\r\n" + ONE, "\ntake one\n" + ONE, "take\none\n" + ONE, "Take one\n" + ONE,
                    "taken one\n" + ONE, "take One\n" + ONE):
            self.check_no_row(row)


class Refused(DeskCase):
    def test_a_house_that_has_no_book(self):
        for house in ("none", "h", "on", "abcdefgh"):
            for desk in (set_up(), Desk()):
                for row in GOOD:
                    words = row.split(" ")
                    if words[0] not in ("begin", "pour"):
                        self.check_refused(NoHouse, desk, " ".join([words[0], house] + words[2:]))
                for row in (f"pour three {house} one", f"pour three one {house}", f"pour {house} {house} {house}",
                            f"pour one two {house}", f"pour one {house} two"):
                    self.check_refused(NoHouse, desk, row)

    def test_no_house_goes_ahead_of_what_the_stages_refuse(self):
        desk = set_up()
        for row in ("enrol h attic hot hot", f"enrol h attic {EIGHT} i", "put h what 100 1 0", "put h attic 0 0 0",
                    "age h -5", "under h 0:7", "ask h what loft any any", "all h what any any", "steps h what 0 1000 0",
                    "report h what any any", "steps h sum 0 101 1"):
            self.check_refused(NoHouse, desk, row)

    def test_enrol(self):
        desk = set_up()
        for row in ("enrol one attic", "enrol one attic hot", "enrol one attic hot hot", f"enrol one barn {EIGHT} i"):
            self.check_refused(NoName, desk, row)
        for row in ("enrol one loft hot hot", "enrol one loft hot wet hot", f"enrol one loft {EIGHT} i",
                    f"enrol one loft {EIGHT} a"):
            self.check_refused(NoMark, desk, row)
        self.assertEqual(desk.say("enrol one loft hot wet"), "ok")

    def test_put(self):
        desk = set_up()
        for row in ("put one loft 100 1", "put one loft 100 1 0", "put one loft 0 1"):
            self.check_refused(NoName, desk, row)
        for row in ("put one attic 100 1 0", "put one attic 0 1 0", "put one attic 100 1 -5"):
            self.check_refused(NoNumber, desk, row)

    def test_age_under_and_pour(self):
        desk = set_up()
        for day in (102, 0, -5):
            self.assertEqual(self.check_refused(Backward, desk, f"age one {day}").last, 103)
        for rule in ("0:1", "5:1 10:5 20:20 gone 40", "5:1 10:5", "5:1 10:5 20:10 30:10 gone 40"):
            self.check_refused(NoRule, desk, "under one " + rule)
        desk.say("begin h 103 5:1 10:5 20:10")
        for row in ("pour three one h", "pour one h one", "pour h two h"):
            self.check_refused(NoRule, desk, row)
        desk.say("begin h 103 " + RULE)
        desk.say("enrol h attic " + EIGHT)
        for row in ("pour three one h", "pour one h one", "pour h two h"):
            self.check_refused(NoMark, desk, row)

    def test_asks(self):
        desk = set_up()
        for word in ("what", "Many", "-", "\t", "\u00e9", "0", "any"):
            for a in ("60", "59", "any"):
                self.check_refused(NoAsk, desk, f"ask one {word} attic {a} any")
                self.check_refused(NoAsk, desk, f"all one {word} {a} any")
                self.check_refused(NoAsk, desk, f"all one {word} {a} any dry")
                self.check_refused(NoAsk, desk, f"report one {word} {a} any")
                self.check_refused(NoName, desk, f"ask one {word} loft {a} any")
            self.check_refused(NoAsk, desk, f"steps one {word} 59 60 1")
        for word in WORDS:
            for a in ("59", "-1000", "any"):
                for row in (f"ask one {word} attic {a} any", f"all one {word} {a} 50", f"all one {word} {a} any dry",
                            f"report one {word} {a} any"):
                    self.assertEqual(self.check_refused(Gone, desk, row).edge, 60)
            self.assertEqual(self.check_refused(Gone, desk, f"steps one {word} 59 58 1 dry").edge, 60)

    def test_report_is_refused_without_names_too(self):
        desk = Desk()
        desk.say("begin h 103 " + RULE)
        for a in ("59", "any"):
            self.assertEqual(self.check_refused(Gone, desk, f"report h sum {a} any").edge, 60)
            self.check_refused(NoAsk, desk, f"report h what {a} any")
        self.check_refused(NoAsk, desk, "report h what 60 any")
        self.assertEqual(desk.say("report h sum 60 any"), "")

    def test_steps(self):
        desk = set_up()
        for row in ("steps one sum 60 90 0", "steps one what 60 90 -1", "steps one sum 0 1000 0",
                    "steps one sum 90 60 0"):
            self.check_refused(NoNumber, desk, row)
        for row in ("steps one sum 60 161 1", "steps one what 60 161 1", "steps one sum 0 101 1",
                    "steps one sum 60 262 2 dry"):
            self.check_refused(TooMany, desk, row)

    def test_take(self):
        desk = set_up()
        for text, line in [("", 0), ("bad", 0), ("rule 0:1", 1), ("rule 0:1\nday 5", 2), (ONE + "\n", 12),
                           (ONE + "\nname a", 12), (ONE.replace("day 103", "day 0103"), 1),
                           (ONE.replace("attic", "Attic"), 3)]:
            for house in ("one", "h"):
                self.assertEqual(self.check_refused(NoText, desk, f"take {house}\n{text}").line, line)


def any_row(chance):
    """A row of any form, mostly a good one."""
    house = chance.choice(["one", "two", "three"])
    name = chance.choice(["attic", "barn", "loft"])
    day = chance.randint(95, 125)
    sieve_words = chance.choice(["", " hot", " -hot", " wet -hot", " dry"])
    word = chance.choice(WORDS * 3 + ["what"])
    a, b = chance.choice(["any", str(day - 30)]), chance.choice(["any", str(day)])
    rule = chance.choice(["5:1 10:5 20:10 gone 40"] * 3 + ["0:1 10:5 40:10", "0:1 0:5 0:10 gone 90", "0:2"])
    return chance.choice([
        f"begin {house} {day} {rule}", f"enrol {house} {name}{chance.choice(['', ' hot', ' wet', ' big hot'])}",
        f"age {house} {day}", f"under {house} {rule}",
        f"pour {house} {chance.choice(HOUSES[:3])} {chance.choice(HOUSES[:3])}",
        f"show {house}", f"size {house}", f"names {house}{sieve_words}", f"ask {house} {word} {name} {a} {b}",
        f"all {house} {word} {a} {b}{sieve_words}", f"report {house} {word} {a} {b}",
        f"steps {house} {word} {day - 40} {day} {chance.choice([0, 3, 7])}{sieve_words}",
    ] + [f"put {house} {name} {day - chance.randint(-3, 45)} {chance.randint(-9, 9)} {chance.randint(0, 3)}"] * 12)


def plain_time(word):
    return None if word == "any" else int(word)


class Plain:
    """A desk by the functions that it is made of, for good rows."""

    def __init__(self):
        self.books = {}

    def book(self, house):
        if house not in self.books:
            raise NoHouse("no book")
        return self.books[house]

    def say(self, row):
        words = row.split(" ")
        deed, house, more = words[0], words[1], words[2:]
        if deed == "begin":
            self.books[house] = Book(read_rule(" ".join(more[1:])), int(more[0]))
            return "ok"
        if deed == "pour":
            self.books[house] = both_books(self.book(more[0]), self.book(more[1]))
            return "ok"
        book = self.book(house)
        if deed == "enrol":
            book.enrol(more[0], more[1:])
            return "ok"
        if deed == "age":
            self.books[house] = aged_book(book, int(more[0]))
            return "ok"
        if deed == "under":
            self.books[house] = book_under(book, read_rule(" ".join(more)))
            return "ok"
        if deed == "put":
            return "kept" if book.put(more[0], *[int(word) for word in more[1:]]) else "gone"
        return self.told(deed, book, more)

    def told(self, deed, book, more):
        if deed == "show":
            return show_book(book)
        if deed == "size":
            heaps, most = size(book)
            return f"{heaps} {'none' if most is None else most}"
        if deed == "names":
            return " ".join(book.chosen(sieve(" ".join(more))))
        if deed == "ask":
            return show_pair(more[0], book.of_name(more[0], more[1], plain_time(more[2]), plain_time(more[3])))
        if deed == "steps":
            a, b, width = [int(word) for word in more[1:4]]
            steps = book.by_steps(more[0], sieve(" ".join(more[4:])), a, b, width)
            return "\n".join(f"{start} {show_pair(more[0], pair)}" for start, pair in steps)
        a, b = plain_time(more[1]), plain_time(more[2])
        pair = book.of_all(more[0], sieve(" ".join(more[3:])), a, b)
        if deed == "all":
            return show_pair(more[0], pair)
        rows = [(name, show_pair(more[0], book.of_name(more[0], name, a, b))) for name in book.names()]
        left, right = [max([len(row[i]) for row in rows] + [0]) for i in range(2)]
        return "\n".join(f"{name:<{left}} {text:>{right}}" for name, text in rows)


def answer(desk, row):
    """The answer, or the class of the refusal and its field."""
    try:
        return desk.say(row)
    except BookError as refusal:
        fields = [getattr(refusal, field, None) for field in ("last", "edge", "line")]
        return (type(refusal), fields)


class Histories(DeskCase):
    def test_as_the_functions_tell(self):
        chance = random.Random(31)
        seen = set()
        for i in range(60):
            desk, plain = Desk(), Plain()
            for j in range(120):
                row = any_row(chance)
                told = answer(plain, row)
                seen.add(told[0] if isinstance(told, tuple) else row.split(" ")[0])
                self.assertEqual(answer(desk, row), told, row)
            for house, text in state(desk).items():
                self.assertEqual(text, show_book(plain.books[house]))
        for thing in (NoHouse, NoName, NoNumber, NoAsk, Gone, Backward, NoRule, "pour", "report", "steps", "ask",
                      "all"):
            self.assertIn(thing, seen)

    def test_asking_changes_nothing(self):
        desk = set_up()
        ahead = state(desk)
        for row in GOOD:
            if row.split(" ")[0] in ("show", "size", "names", "ask", "all", "steps", "report"):
                self.assertEqual(desk.say(row), desk.say(row))
                self.assertEqual(state(desk), ahead)


if __name__ == "__main__":
    unittest.main()
