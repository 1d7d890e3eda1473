"""Promises 32 to 34 and 36 to 39: books, their names and marks, and what is asked of them."""

import random
import unittest

from thinbook.ages import roll_of
from thinbook.asks import asked
from thinbook.books import Book
from thinbook.edges import edges_at
from thinbook.errors import Gone, NoAsk, NoMark, NoName, NoNumber, TooMany
from thinbook.houses import aged_book, book_of, book_under
from thinbook.rolls import Roll
from thinbook.rules import Rule
from thinbook.sieves import sieve

BIG = 10 ** 40 + 7

WORDS = ["many", "sum", "least", "greatest", "mean"]
NO_WORDS = ["", "Many", "count", "many ", "sum sum"]
STEPS = [(5, 1), (10, 5), (20, 10)]
# The edges of this rule on the day 103 are 98, 90, 80 and, of gone, 60.
RULE = Rule(STEPS, 40)
EVER = Rule(STEPS)
DAY = 103
EIGHT = ["a", "b", "c", "d", "e", "f", "g", "h"]
NO_NAMES = ["", "A", "attic1", "at tic", " attic", "attic ", "attic\n", "-attic", "\u00e4", "abcdefghijklm",
            None, True, 0, 7, ("attic",), ["attic"], {"attic": True}, b"attic"]
NO_MARKS = ["", "Hot", "-hot", "hot wet", " hot", "hot\n", "\u00e9", "abcdefghi", None, True, 0, ("hot",), ["hot"], {}]
NAMES = [("attic", ["hot"]), ("cellar", []), ("barn", ["wet", "big"]), ("abcdefghijkl", ["wet", "abcdefgh", "hot"])]
READINGS = [("attic", 100, 1, 2), ("attic", 97, 7, 1), ("attic", 86, -4, 3), ("attic", 89, 10, 1), ("attic", 63, 5, 1),
            ("barn", 101, -2, 1), ("barn", 88, 3, 1), ("barn", 85, 4, 1), ("barn", 75, -9, 1), ("barn", 71, 9, 2),
            ("abcdefghijkl", 74, 6, 1), ("abcdefghijkl", 110, 0, 1)]


def filled(rule=RULE):
    book = Book(rule, DAY)
    for name, marks in NAMES:
        book.enrol(name, marks)
    for name, time, value, many in READINGS:
        book.put(name, time, value, many)
    return book


def roll_whole(roll):
    return (roll.rule().steps(), roll.rule().gone(), roll.day(), roll.edges(), roll.young(), roll.heaps())


def whole(book):
    """All that a book tells of itself."""
    return (book.rule().steps(), book.rule().gone(), book.day(), book.edges(),
            [(name, book.marks(name), roll_whole(book.roll(name))) for name in book.names()])


def plain_rolls(book, names, readings=READINGS):
    """The rolls of these names, made at once."""
    return [roll_of(book.rule(), book.day(), book.edges(), [row[1:] for row in readings if row[0] == name])
            for name in names]


def every(marks):
    return True


def no_one(marks):
    return False


class BookCase(unittest.TestCase):
    def check_refused(self, kind, book, deed, *handed):
        """It is refused with that class, and nothing changes."""
        ahead = whole(book)
        with self.assertRaises(kind) as caught:
            deed(*handed)
        self.assertIs(type(caught.exception), kind)
        self.assertEqual(whole(book), ahead)
        return caught.exception


class Begun(BookCase):
    def test_without_names(self):
        for rule in (RULE, EVER, Rule([(0, 1)]), Rule([(3, 7)], 3)):
            for day in (DAY, 0, -1, -BIG, BIG):
                book = Book(rule, day)
                self.assertEqual((book.rule().steps(), book.rule().gone()), (rule.steps(), rule.gone()))
                self.assertIsInstance(book.rule(), Rule)
                self.assertEqual((book.day(), book.edges(), book.names()), (day, edges_at(rule, day), []))

    def test_by_hand(self):
        self.assertEqual(Book(RULE, DAY).edges(), [98, 90, 80, 60])
        self.assertEqual(Book(EVER, DAY).edges(), [98, 90, 80, None])

    def test_two_books_have_nothing_in_common(self):
        one, other = Book(RULE, DAY), Book(RULE, DAY)
        one.enrol("attic")
        self.assertEqual(other.names(), [])
        other.enrol("attic", ["hot"])
        one.put("attic", 100, 1)
        self.assertEqual((one.marks("attic"), other.roll("attic").young()), ([], []))


class Enrolled(BookCase):
    def test_marks_and_a_roll_without_readings(self):
        book = Book(RULE, DAY)
        self.assertIsNone(book.enrol("attic", ["wet", "hot"]))
        self.assertEqual((book.names(), book.marks("attic")), (["attic"], ["hot", "wet"]))
        self.assertEqual(roll_whole(book.roll("attic")), roll_whole(Roll(RULE, DAY)))

    def test_no_list_of_marks_and_an_empty_one(self):
        book = Book(RULE, DAY)
        book.enrol("attic")
        book.enrol("barn", None)
        book.enrol("cellar", [])
        self.assertEqual([book.marks(name) for name in book.names()], [[], [], []])

    def test_names_are_told_sorted(self):
        book = Book(RULE, DAY)
        for name in ["cellar", "barn", "b", "attic", "zz", "ab", "abc"]:
            book.enrol(name)
        self.assertEqual(book.names(), ["ab", "abc", "attic", "b", "barn", "cellar", "zz"])

    def test_forty_names(self):
        book = Book(RULE, DAY)
        names = [one + other for one in "qwert" for other in "zxcvbnma"]
        for name in names:
            book.enrol(name, [name])
        self.assertEqual(book.names(), sorted(names))

    def test_names_of_one_twelve_and_thirteen_letters(self):
        book = Book(RULE, DAY)
        for name in ("z", "abcdefghijkl"):
            book.enrol(name)
        self.check_refused(NoName, book, book.enrol, "abcdefghijklm")
        self.assertEqual(book.names(), ["abcdefghijkl", "z"])

    def test_what_is_no_name(self):
        book = filled()
        for name in NO_NAMES:
            with self.subTest(name=name):
                self.check_refused(NoName, book, book.enrol, name)
                self.check_refused(NoName, book, book.enrol, name, ["hot"])

    def test_a_name_that_is_enrolled_already(self):
        book = filled()
        for name, marks in NAMES:
            self.check_refused(NoName, book, book.enrol, name)
            self.check_refused(NoName, book, book.enrol, name, marks)
            self.check_refused(NoName, book, book.enrol, name, ["other"])

    def test_marks_of_one_eight_and_nine_letters(self):
        book = Book(RULE, DAY)
        book.enrol("attic", ["abcdefgh", "z"])
        self.assertEqual(book.marks("attic"), ["abcdefgh", "z"])
        self.check_refused(NoMark, book, book.enrol, "barn", ["abcdefghi"])

    def test_what_is_no_mark(self):
        book = filled()
        for mark in NO_MARKS:
            for marks in ([mark], ["hot", mark], [mark, "hot"], ["big", mark, "hot"], [mark, mark]):
                with self.subTest(marks=marks):
                    self.check_refused(NoMark, book, book.enrol, "loft", marks)

    def test_a_mark_told_twice(self):
        book = filled()
        for marks in (["hot", "hot"], ["hot", "wet", "hot"], ["wet", "hot", "hot"], EIGHT[:7] + ["a"]):
            self.check_refused(NoMark, book, book.enrol, "loft", marks)

    def test_eight_and_nine_marks(self):
        book = Book(RULE, DAY)
        book.enrol("attic", list(reversed(EIGHT)))
        self.assertEqual(book.marks("attic"), EIGHT)
        self.check_refused(NoMark, book, book.enrol, "barn", EIGHT + ["i"])
        self.check_refused(NoMark, book, book.enrol, "barn", EIGHT + ["a"])

    def test_no_name_goes_ahead_of_no_mark(self):
        book = filled()
        for name in ("attic", "Attic", "", None, "abcdefghijklm"):
            for marks in (["Hot"], ["hot", "hot"], EIGHT + ["i"]):
                self.check_refused(NoName, book, book.enrol, name, marks)

    def test_a_name_refused_can_be_enrolled_later(self):
        book = Book(RULE, DAY)
        self.check_refused(NoMark, book, book.enrol, "attic", ["Hot"])
        book.enrol("attic", ["hot"])
        self.assertEqual(book.marks("attic"), ["hot"])

    def test_the_list_of_marks_stays_as_it_is_and_apart(self):
        book = Book(RULE, DAY)
        marks = ["wet", "hot"]
        book.enrol("attic", marks)
        self.assertEqual(marks, ["wet", "hot"])
        marks.append("big")
        marks[0] = "dry"
        self.assertEqual(book.marks("attic"), ["hot", "wet"])
        book.enrol("barn", marks)
        self.assertEqual((book.marks("attic"), book.marks("barn")), (["hot", "wet"], ["big", "dry", "hot"]))


class Put(BookCase):
    def test_kept_or_gone(self):
        book = filled()
        for time, kept in [(10 ** 6, True), (98, True), (97, True), (60, True), (59, False), (-BIG, False)]:
            self.assertIs(book.put("cellar", time, 1), kept, time)
        self.assertEqual(book.roll("cellar").young(), [(98, 1, 1), (10 ** 6, 1, 1)])
        self.assertEqual(book.roll("cellar").heaps(), [(60, 10, 1, 1, 1, 1), (97, 1, 1, 1, 1, 1)])

    def test_into_the_roll_of_that_name_alone(self):
        book = filled()
        ahead = {name: roll_whole(book.roll(name)) for name in book.names()}
        book.put("barn", 100, 5)
        book.put("barn", 72, 5)
        for name in ("attic", "cellar", "abcdefghijkl"):
            self.assertEqual(roll_whole(book.roll(name)), ahead[name])
        self.assertEqual(book.roll("barn").young(), [(100, 5, 1), (101, -2, 1)])
        self.assertEqual(book.roll("barn").heaps(), [(70, 10, 4, 14, -9, 9), (85, 5, 2, 7, 3, 4)])

    def test_many_and_many_left_out(self):
        book = filled()
        book.put("cellar", 100, 4)
        book.put("cellar", 100, 4, 3)
        book.put("cellar", 90, 2, BIG)
        self.assertEqual(book.roll("cellar").young(), [(100, 4, 4)])
        self.assertEqual(book.roll("cellar").heaps(), [(90, 1, BIG, 2 * BIG, 2, 2)])

    def test_as_a_roll_does(self):
        book = filled()
        for name, marks in NAMES:
            roll = Roll(RULE, DAY)
            for reading in READINGS:
                if reading[0] == name:
                    roll.put(*reading[1:])
            self.assertEqual(roll_whole(book.roll(name)), roll_whole(roll))

    def test_a_name_that_is_not_enrolled(self):
        book = filled()
        for name in ["loft", "att", "attics"] + NO_NAMES:
            with self.subTest(name=name):
                self.check_refused(NoName, book, book.put, name, 100, 1)
                self.check_refused(NoName, book, book.put, name, 0, 1)
                self.check_refused(NoName, book, book.put, name, 100, 1, 0)

    def test_many_below_one(self):
        book = filled()
        for many in (0, -1, -BIG):
            for time in (100, 75, 0):
                self.check_refused(NoNumber, book, book.put, "attic", time, 1, many)

    def test_the_rolls_have_the_edges_of_the_book(self):
        # Enrolled ahead of an ageing or behind it, and where the edges are not the rule's own.
        book = book_under(aged_book(filled(), 120), Rule([(30, 1), (60, 5), (90, 10)], 1000))
        book.enrol("loft")
        self.assertEqual(book.edges(), [115, 110, 100, 80])
        for name in book.names():
            self.assertEqual(book.roll(name).edges(), book.edges())
            self.assertEqual((book.roll(name).day(), book.roll(name).rule().gone()), (120, 1000))
        self.assertEqual([book.put("loft", time, 1) for time in (114, 80, 79)], [True, True, False])
        self.assertEqual(book.roll("loft").heaps(), [(80, 10, 1, 1, 1, 1), (114, 1, 1, 1, 1, 1)])


class Chosen(BookCase):
    def test_by_sieves_of_texts(self):
        book = filled()
        for text, names in [
            ("", ["abcdefghijkl", "attic", "barn", "cellar"]), ("hot", ["abcdefghijkl", "attic"]),
            ("-hot", ["barn", "cellar"]), ("hot wet", ["abcdefghijkl"]), ("wet -hot", ["barn"]), ("hot -hot", []),
            ("dry", []), ("-wet -hot", ["cellar"]),
        ]:
            self.assertEqual(book.chosen(sieve(text)), names, text)

    def test_by_any_function(self):
        book = filled()
        self.assertEqual(book.chosen(every), book.names())
        self.assertEqual(book.chosen(no_one), [])
        self.assertEqual(book.chosen(lambda marks: len(marks) == 2), ["barn"])
        self.assertEqual(book.chosen(lambda marks: marks[:1] == ["hot"]), ["attic"])
        self.assertEqual(Book(RULE, DAY).chosen(every), [])

    def test_the_lists_handed_are_new_and_sorted(self):
        book = filled()
        handed = []

        def keeps(marks):
            handed.append(marks)
            return True

        for deed in (lambda: book.chosen(keeps), lambda: book.of_all("many", keeps, 60),
                     lambda: book.by_steps("many", keeps, 60, 100, 10)):
            deed()
            self.assertEqual({tuple(marks) for marks in handed},
                             {("abcdefgh", "hot", "wet"), ("hot",), ("big", "wet"), ()})
        self.assertEqual({type(marks) for marks in handed}, {list})
        self.assertEqual(len({id(marks) for marks in handed}), len(handed))

    def test_a_sieve_that_changes_the_list_it_is_handed(self):
        book = filled()
        ahead = whole(book)

        def spoils(marks):
            lets = "hot" in marks
            marks.append("zzz")
            marks.insert(0, "hot")
            marks.reverse()
            return lets

        def clears(marks):
            lets = "wet" in marks
            marks.clear()
            return lets

        for i in range(3):
            self.assertEqual(book.chosen(spoils), ["abcdefghijkl", "attic"])
            self.assertEqual(book.chosen(clears), ["abcdefghijkl", "barn"])
            self.assertEqual(book.of_all("many", spoils, 60), (10, 10))
            self.assertEqual(book.of_all("many", clears, 60), (8, 8))
            self.assertEqual(len(book.by_steps("many", spoils, 60, 70, 5)), 2)
        self.assertEqual(whole(book), ahead)

    def test_the_list_told_is_the_asker_s_own(self):
        book = filled()
        told = book.chosen(every)
        told.clear()
        self.assertEqual(book.chosen(every), book.names())
        self.assertEqual(len(book.names()), 4)


class Asked(BookCase):
    def test_of_a_name_by_hand(self):
        book = filled()
        self.assertEqual(book.of_name("many", "attic", 60), (8, 8))
        self.assertEqual(book.of_name("sum", "attic", 86, 98), (7 - 12, 7 + 10))
        self.assertEqual(book.of_name("least", "attic", 87, 98), (-4, 7))
        self.assertEqual(book.of_name("greatest", "barn", 60, 88), (9, 9))
        self.assertEqual(book.of_name("mean", "barn", 71, 80), ((-9, 1), (9, 1)))
        self.assertEqual(book.of_name("mean", "barn", 70, 80), ((3, 1), (3, 1)))
        self.assertEqual(book.of_name("mean", "cellar", 60), (None, None))
        self.assertEqual(book.of_name("sum", "cellar", 60), (0, 0))

    def test_of_all_by_hand(self):
        book = filled()
        self.assertEqual(book.of_all("many", every, 60), (16, 16))
        self.assertEqual(book.of_all("many", every, 75, 102), (10, 14))
        self.assertEqual(book.of_all("many", sieve("wet"), 70, 80), (4, 4))
        self.assertEqual(book.of_all("sum", sieve("wet"), 75, 80), (-9, 9 + 9 + 6))
        self.assertEqual(book.of_all("greatest", sieve("-hot"), 60, 80), (9, 9))
        self.assertEqual(book.of_all("mean", sieve("hot"), 100), ((2, 3), (2, 3)))

    def test_of_names_as_the_roll_tells_it(self):
        for rule in (RULE, EVER):
            book = filled(rule)
            for name in book.names():
                rolls = plain_rolls(book, [name])
                for word in WORDS:
                    for a in (60, 61, 70, 75, 86, 98, 101, 120):
                        for b in (None, 60, 72, 76, 89, 99, 102):
                            self.assertEqual(book.of_name(word, name, a, b), asked(word, rolls, a, b))

    def test_of_all_as_the_rolls_tell_it(self):
        for rule in (RULE, EVER):
            book = filled(rule)
            for text in ("", "hot", "wet", "-hot", "big -hot", "dry"):
                rolls = plain_rolls(book, book.chosen(sieve(text)))
                for word in WORDS:
                    for a, b in [(60, None), (60, 75), (75, 87), (86, 100), (71, 101), (99, None), (80, 70)]:
                        self.assertEqual(book.of_all(word, sieve(text), a, b), asked(word, rolls, a, b))

    def test_a_and_b_left_out(self):
        book = filled(EVER)
        book.put("attic", -BIG, 2)
        self.assertEqual(book.of_name("many", "attic"), (9, 9))
        self.assertEqual(book.of_name("many", "attic", 60), (8, 8))
        self.assertEqual(book.of_name("many", "attic", None, 60), (1, 1))
        self.assertEqual(book.of_all("many", every), (17, 17))
        self.assertEqual(book.of_all("many", every, 60), (16, 16))
        self.assertEqual(book.of_all("many", every, None, 60), (1, 1))
        self.assertEqual(book.of_all("many", every, b=60), (1, 1))

    def test_of_no_rolls(self):
        for book in (filled(), Book(RULE, DAY)):
            for b in (None, 50, 70):
                self.assertEqual([book.of_all(word, no_one, 60, b) for word in WORDS],
                                 [(0, 0), (0, 0), (None, None), (None, None), (None, None)])
        self.assertEqual([Book(EVER, DAY).of_all(word, every) for word in WORDS],
                         [(0, 0), (0, 0), (None, None), (None, None), (None, None)])

    def test_a_name_that_is_not_enrolled(self):
        book = filled()
        for name in ["loft", "att"] + NO_NAMES:
            self.check_refused(NoName, book, book.of_name, "many", name, 60)
            self.check_refused(NoName, book, book.of_name, "", name, 60)
            self.check_refused(NoName, book, book.of_name, "many", name)
            self.check_refused(NoName, book, book.of_name, "what", name, 59)

    def test_a_word_that_asks_for_nothing(self):
        for book in (filled(), Book(RULE, DAY), filled(EVER)):
            for word in NO_WORDS:
                for a in (60, 59, None):
                    for lets in (every, no_one):
                        self.check_refused(NoAsk, book, book.of_all, word, lets, a)
                    if book.names():
                        self.check_refused(NoAsk, book, book.of_name, word, "attic", a)

    def check_gone(self, book, edge, deed, *handed):
        self.assertEqual(self.check_refused(Gone, book, deed, *handed).edge, edge)

    def test_a_below_at_and_above_the_edge_of_gone(self):
        book = filled()
        for word in WORDS:
            for b in (None, 58, 59, 100):
                for a in (59, 0, -BIG, None):
                    self.check_gone(book, 60, book.of_name, word, "attic", a, b)
                    self.check_gone(book, 60, book.of_name, word, "cellar", a, b)
                    self.check_gone(book, 60, book.of_all, word, every, a, b)
                    self.check_gone(book, 60, book.of_all, word, no_one, a, b)
                    self.check_gone(Book(RULE, DAY), 60, Book(RULE, DAY).of_all, word, every, a, b)
                for a in (60, 61):
                    self.assertEqual(len(book.of_name(word, "cellar", a, b)), 2)
                    self.assertEqual(len(book.of_all(word, no_one, a, b)), 2)

    def test_gone_goes_by_the_book_s_own_edge(self):
        # Its rule has no gone any more, or another one, but what is gone stays gone.
        for rule in (EVER, Rule(STEPS, 1000)):
            book = book_under(filled(), rule)
            self.check_gone(book, 60, book.of_all, "many", no_one, 59)
            self.check_gone(book, 60, book.of_name, "many", "attic")
            self.assertEqual(book.of_all("many", no_one, 60), (0, 0))
        told = book_of(RULE, DAY, [98, 90, 80, 70], [], [])
        self.check_gone(told, 70, told.of_all, "sum", every, 69)
        self.assertEqual(told.of_all("sum", every, 70), (0, 0))
        self.check_gone(aged_book(filled(), 110), 70, aged_book(filled(), 110).of_all, "sum", every, 69)

    def test_nothing_that_is_asked_changes_anything(self):
        book = filled()
        ahead = whole(book)
        for i in range(2):
            for word in WORDS:
                book.of_name(word, "attic", 75, 99)
                book.of_all(word, every, 75, 99)
                book.by_steps(word, every, 75, 99, 3)
            self.assertEqual(whole(book), ahead)


class BySteps(BookCase):
    def test_by_hand(self):
        book = filled()
        self.assertEqual(book.by_steps("many", every, 60, 90, 10), [(60, (1, 1)), (70, (4, 4)), (80, (6, 6))])
        self.assertEqual(book.by_steps("sum", sieve("hot"), 80, 104, 10), [(80, (-2, -2)), (90, (7, 7)), (100, (2, 2))])
        self.assertEqual(book.by_steps("least", sieve("dry"), 60, 62, 1), [(60, (None, None)), (61, (None, None))])
        self.assertEqual(book.by_steps("mean", sieve("big"), 80, 90, 5), [(80, (None, None)), (85, ((7, 2), (7, 2)))])

    def test_a_last_step_that_is_cut_short_by_b(self):
        book = filled()
        self.assertEqual(book.by_steps("many", every, 60, 85, 10), [(60, (1, 1)), (70, (4, 4)), (80, (0, 0))])
        self.assertEqual(book.by_steps("many", every, 60, 87, 10), [(60, (1, 1)), (70, (4, 4)), (80, (0, 6))])
        self.assertEqual(book.by_steps("many", every, 60, 71, 10), [(60, (1, 1)), (70, (0, 4))])
        self.assertEqual(book.by_steps("many", every, 60, 70, 10), [(60, (1, 1))])
        self.assertEqual(book.by_steps("many", every, 60, 61, BIG), [(60, (0, 1))])

    def test_as_each_stretch_is_told(self):
        for rule in (RULE, EVER):
            book = filled(rule)
            for lets in (every, sieve("wet"), no_one):
                for word in WORDS:
                    for a, b, width in [(60, 110, 7), (61, 104, 10), (75, 76, 1), (75, 80, 5), (75, 81, 5),
                                        (70, 170, 1)]:
                        steps = [(start, book.of_all(word, lets, start, min(b, start + width)))
                                 for start in range(a, b, width)]
                        self.assertEqual(book.by_steps(word, lets, a, b, width), steps)

    def test_the_whole_is_no_wider_than_its_pieces(self):
        book = filled()
        for word in ("many", "sum"):
            for width in (1, 3, 4, 10, 11):
                pairs = [pair for start, pair in book.by_steps(word, every, 63, 105, width)]
                low, high = book.of_all(word, every, 63, 105)
                self.assertLessEqual(sum(pair[0] for pair in pairs), low)
                self.assertGreaterEqual(sum(pair[1] for pair in pairs), high)

    def test_a_not_below_b(self):
        book = filled()
        for a, b in [(60, 60), (61, 60), (100, 0), (BIG, -BIG)]:
            for width in (1, 7, BIG):
                self.assertEqual(book.by_steps("many", every, a, b, width), [])

    def test_below_nought_and_big(self):
        book = Book(Rule([(0, 7)]), 0)
        book.enrol("attic")
        book.put("attic", -8, 5)
        self.assertEqual(book.by_steps("sum", every, -15, 1, 7), [(-15, (0, 5)), (-8, (0, 5)), (-1, (0, 0))])
        self.assertEqual(book.by_steps("sum", every, -BIG, BIG, BIG), [(-BIG, (5, 5)), (0, (0, 0))])

    def test_a_hundred_and_a_hundred_and_one_starts(self):
        book = filled()
        for width in (1, 2, 7, BIG):
            for short in (0, width - 1):
                told = book.by_steps("many", every, 60, 60 + 100 * width - short, width)
                self.assertEqual([start for start, pair in told], [60 + i * width for i in range(100)])
                b = 60 + 101 * width - short
                self.check_refused(TooMany, book, book.by_steps, "many", every, 60, b, width)
            self.check_refused(TooMany, book, book.by_steps, "many", every, 60, 61 + 100 * width, width)
        self.check_refused(TooMany, book, book.by_steps, "many", every, 60, BIG, 1)

    def test_a_width_below_one(self):
        book = filled()
        for width in (0, -1, -BIG):
            for a, b in [(60, 70), (60, 60), (70, 60), (0, 10), (60, BIG)]:
                for word in ("many", "", "what"):
                    self.check_refused(NoNumber, book, book.by_steps, word, every, a, b, width)

    def test_too_many_goes_ahead_of_no_ask_and_gone(self):
        book = filled()
        self.check_refused(TooMany, book, book.by_steps, "what", every, 60, 161, 1)
        self.check_refused(TooMany, book, book.by_steps, "many", every, 59, 160, 1)
        self.check_refused(TooMany, book, book.by_steps, "what", no_one, 0, 101, 1)

    def test_no_ask_goes_ahead_of_gone(self):
        book = filled()
        for a, b in [(60, 70), (59, 70), (59, 59), (70, 60)]:
            for lets in (every, no_one):
                for word in NO_WORDS:
                    self.check_refused(NoAsk, book, book.by_steps, word, lets, a, b, 10)

    def test_gone_also_without_starts_and_without_names(self):
        book = filled()
        for lets in (every, no_one):
            for a, b in [(59, 70), (59, 60), (59, 59), (59, 0), (-BIG, -BIG + 5)]:
                self.assertEqual(self.check_refused(Gone, book, book.by_steps, "many", lets, a, b, 1).edge, 60)
        self.assertEqual(book.by_steps("many", no_one, 60, 62, 1), [(60, (0, 0)), (61, (0, 0))])

    def test_the_kinds_told(self):
        told = filled().by_steps("many", every, 60, 63, 1)
        self.assertIs(type(told), list)
        self.assertEqual({type(step) for step in told} | {type(step[1]) for step in told}, {tuple})


class Told(BookCase):
    def test_a_name_that_is_not_enrolled(self):
        book = filled()
        for name in ["loft", "att"] + NO_NAMES:
            with self.subTest(name=name):
                self.check_refused(NoName, book, book.marks, name)
                self.check_refused(NoName, book, book.roll, name)

    def test_lists_told_are_new_ones(self):
        book = filled()
        ahead = whole(book)
        for told in (book.edges(), book.names(), book.marks("attic"), book.rule().steps(), book.chosen(every)):
            told.append("zzz")
            told.reverse()
            self.assertEqual(whole(book), ahead)
        kept = [book.edges(), book.names(), book.marks("attic")]
        book.enrol("loft")
        book.put("loft", 100, 1)
        self.assertEqual(kept, [ahead[3], [row[0] for row in ahead[4]], ["hot"]])

    def test_a_roll_told_is_a_new_one(self):
        book = filled()
        ahead = whole(book)
        roll = book.roll("attic")
        for time in (60, 63, 75, 86, 97, 98, 100, 200):
            roll.put(time, 50, 3)
        self.assertEqual(whole(book), ahead)
        self.assertEqual(book.of_name("many", "attic", 60), (8, 8))
        kept = roll_whole(roll)
        book.put("attic", 100, 9)
        book.put("attic", 63, 9)
        self.assertEqual(roll_whole(roll), kept)
        self.assertEqual(book.roll("attic").heaps()[0], (60, 10, 2, 14, 5, 9))

    def test_a_roll_told_is_a_roll_as_it_stands(self):
        book = book_of(RULE, DAY, [110, 100, 90, 70], NAMES, READINGS)
        for name in book.names():
            self.assertIsInstance(book.roll(name), Roll)
            self.assertEqual(roll_whole(book.roll(name)), roll_whole(plain_rolls(book, [name])[0]))

    def test_any_order_of_names_and_readings(self):
        chance = random.Random(7)
        ahead = whole(filled())
        for i in range(20):
            book = Book(RULE, DAY)
            for name, marks in chance.sample(NAMES, len(NAMES)):
                book.enrol(name, chance.sample(marks, len(marks)))
            for reading in chance.sample(READINGS, len(READINGS)):
                book.put(*reading)
            self.assertEqual(whole(book), ahead)


if __name__ == "__main__":
    unittest.main()
