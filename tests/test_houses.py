"""Promises 40 to 46, and 1 over the whole program: books aged, put under other rules, poured together, made at once."""

import fractions
import random
import unittest

from thinbook.books import Book
from thinbook.edges import edges_at
from thinbook.errors import Backward, NoMark, NoName, NoNumber, NoRule
from thinbook.houses import aged_book, book_of, book_under, both_books, size, told
from thinbook.rules import Rule
from thinbook.shown import shown
from thinbook.sieves import sieve

BIG = 10 ** 40 + 7

WORDS = ["many", "sum", "least", "greatest", "mean"]
STEPS = [(5, 1), (10, 5), (20, 10)]
# The edges of this rule on the day 103 are 98, 90, 80 and, of gone, 60.
RULE = Rule(STEPS, 40)
EVER = Rule(STEPS)
DAY = 103
OWN = [98, 90, 80, 60]
# Of the same widths; the last ones keep readings longer, or for ever.
RULES = [RULE, EVER, Rule([(0, 1), (0, 5), (0, 10)], 0), Rule([(2, 1), (30, 5), (31, 10)], 33),
         Rule([(20, 1), (40, 5), (80, 10)], 200)]
# Other widths, or some more or less of them.
OTHER_WIDTHS = [Rule([(5, 2), (10, 10), (20, 20)], 40), Rule([(5, 1), (10, 5)], 40),
                Rule([(5, 1), (10, 5), (20, 5)], 40), Rule([(5, 1), (10, 1), (20, 10)], 40),
                Rule([(5, 1), (10, 5), (20, 10), (30, 10)], 40), Rule([(5, 1)])]
EIGHT = ["a", "b", "c", "d", "e", "f", "g", "h"]
NAMES = [("attic", ["hot"]), ("cellar", []), ("barn", ["wet", "big"])]
READINGS = [("attic", 104, 8, 1), ("attic", 100, 1, 2), ("attic", 97, 7, 1), ("attic", 86, -4, 3), ("attic", 89, 10, 1),
            ("attic", 63, 5, 1), ("attic", 59, 100, 1), ("barn", 101, -2, 1), ("barn", 88, 3, 1), ("barn", 85, 4, 1),
            ("barn", 75, -9, 1), ("barn", 71, 9, 2)]


def plain_edges(rule, day):
    cuts = [(day - age) // width * width for age, width in rule.steps()]
    last = rule.steps()[-1][1]
    return cuts + [None if rule.gone() is None else (day - rule.gone()) // last * last]


def plain_greater(one, other):
    return [max([edge for edge in pair if edge is not None], default=None) for pair in zip(one, other)]


def plain_rows(rule, edges, readings):
    """Young ones and heaps by the document's words."""
    young, cells = {}, {}
    for time, value, many in readings:
        if time >= edges[0]:
            young[(time, value)] = young.get((time, value), 0) + many
        elif edges[-1] is None or time >= edges[-1]:
            width = [step[1] for step, edge in zip(rule.steps(), edges) if edge > time][-1]
            cells.setdefault((time - time % width, width), []).append((value, many))
    heaps = []
    for (start, width), runs in sorted(cells.items()):
        values = [value for value, many in runs]
        heaps.append((start, width, sum(many for value, many in runs), sum(value * many for value, many in runs),
                      min(values), max(values)))
    return ([(time, value, many) for (time, value), many in sorted(young.items())], heaps)


def plain_told(rule, edges, names, readings):
    """What a book tells, of (name, marks) and of all readings at once."""
    return [(name, sorted(marks)) + plain_rows(rule, edges, [row[1:] for row in readings if row[0] == name])
            for name, marks in sorted(names)]


def whole(book):
    return (book.rule().steps(), book.rule().gone(), book.day(), book.edges(), told(book))


def filled(rule=RULE, day=DAY, names=NAMES, readings=READINGS):
    book = Book(rule, day)
    for name, marks in names:
        book.enrol(name, marks)
    for name, time, value, many in readings:
        book.put(name, time, value, many)
    return book


class HouseCase(unittest.TestCase):
    def check_book(self, book, rule, day, edges, names=NAMES, readings=READINGS):
        """The book has this rule, day and edges, and tells these readings as if they came at once."""
        self.assertIsInstance(book, Book)
        self.assertEqual((book.rule().steps(), book.rule().gone()), (rule.steps(), rule.gone()))
        self.assertEqual((book.day(), book.edges()), (day, edges))
        self.assertEqual(told(book), plain_told(rule, edges, names, readings))
        self.assertEqual(book.names(), sorted(name for name, marks in names))
        for name, marks in names:
            roll = book.roll(name)
            self.assertEqual((roll.day(), roll.edges(), roll.rule().steps(), roll.rule().gone()),
                             (day, edges, rule.steps(), rule.gone()))

    def check_refused(self, kind, deed, *handed):
        ahead = [whole(thing) for thing in handed if isinstance(thing, Book)]
        with self.assertRaises(kind) as caught:
            deed(*handed)
        self.assertIs(type(caught.exception), kind)
        self.assertEqual([whole(thing) for thing in handed if isinstance(thing, Book)], ahead)
        return caught.exception

    def check_apart(self, one, other):
        """Neither of two books changes when the other one is put to, or a name is enrolled."""
        for changed, left in [(one, other), (other, one)]:
            kept = whole(left)
            self.put_everywhere(changed)
            name = "new" + "x" * len(changed.names())
            changed.enrol(name, ["new"])
            changed.put(name, changed.edges()[0], 1)
            self.assertEqual(whole(left), kept)

    def put_everywhere(self, book):
        first, gone = book.edges()[0], book.edges()[-1]
        for name in book.names():
            roll = book.roll(name)
            times = [first + 50, first, first - 1] + [row[0] for row in roll.young() + roll.heaps()]
            for time in times + ([] if gone is None else [gone]):
                book.put(name, time, 77, 5)
                book.put(name, time, 1)


class Aged(HouseCase):
    def test_by_hand(self):
        self.assertEqual(whole(aged_book(filled(), 110)), (STEPS, 40, 110, [105, 100, 90, 70], [
            ("attic", ["hot"], [], [(80, 10, 4, -2, -4, 10), (95, 5, 1, 7, 7, 7), (100, 1, 2, 2, 1, 1),
                                    (104, 1, 1, 8, 8, 8)]),
            ("barn", ["big", "wet"], [], [(70, 10, 3, 9, -9, 9), (80, 10, 2, 7, 3, 4), (101, 1, 1, -2, -2, -2)]),
            ("cellar", [], [], [])]))

    def test_to_each_day(self):
        for day in list(range(DAY, DAY + 70)) + [DAY + BIG]:
            for rule in RULES:
                self.check_book(aged_book(filled(rule), day), rule, day, plain_edges(rule, day))

    def test_to_its_own_day(self):
        book = filled()
        new = aged_book(book, DAY)
        self.assertEqual(whole(new), whole(book))
        self.check_apart(new, book)

    def test_edges_are_never_less_than_the_book_s(self):
        edges = [120, 100, 80, 70]
        for day in (DAY, 110, 115, 140):
            new = aged_book(book_of(RULE, DAY, edges, NAMES, READINGS), day)
            self.check_book(new, RULE, day, plain_greater(edges, plain_edges(RULE, day)))

    def test_in_many_steps(self):
        for end in (104, 113, 150):
            book = filled()
            for day in range(DAY, end + 1):
                book = aged_book(book, day)
            self.assertEqual(whole(book), whole(aged_book(filled(), end)))

    def test_without_names(self):
        self.check_book(aged_book(Book(RULE, DAY), 110), RULE, 110, [105, 100, 90, 70], [], [])

    def test_a_day_below_is_backward(self):
        for book in (filled(), Book(RULE, DAY), aged_book(Book(EVER, 50), DAY)):
            for day in (DAY - 1, 0, -1, -BIG):
                self.assertEqual(self.check_refused(Backward, aged_book, book, day).last, DAY)
        self.assertEqual(self.check_refused(Backward, aged_book, aged_book(filled(), 110), DAY).last, 110)

    def test_the_book_stays_and_is_apart(self):
        book = filled()
        ahead = whole(book)
        new = aged_book(book, 110)
        self.assertEqual(whole(book), ahead)
        self.check_apart(new, book)
        self.check_apart(aged_book(book, DAY), book)


class Under(HouseCase):
    def test_by_hand(self):
        new = book_under(filled(), Rule([(0, 1), (5, 5), (10, 10)], 90))
        self.assertEqual(whole(new), ([(0, 1), (5, 5), (10, 10)], 90, DAY, [103, 95, 90, 60], [
            ("attic", ["hot"], [(104, 8, 1)], [(60, 10, 1, 5, 5, 5), (80, 10, 4, -2, -4, 10), (97, 1, 1, 7, 7, 7),
                                               (100, 1, 2, 2, 1, 1)]),
            ("barn", ["big", "wet"], [], [(70, 10, 3, 9, -9, 9), (80, 10, 2, 7, 3, 4), (101, 1, 1, -2, -2, -2)]),
            ("cellar", [], [], [])]))

    def test_each_rule_of_the_same_widths(self):
        for one in RULES:
            for other in RULES:
                edges = plain_greater(plain_edges(one, DAY), plain_edges(other, DAY))
                self.check_book(book_under(filled(one), other), other, DAY, edges)

    def test_what_is_poured_or_gone_stays_so(self):
        new = book_under(filled(), Rule([(50, 1), (60, 5), (70, 10)]))
        self.assertEqual(new.edges(), OWN)
        self.assertEqual(told(new), told(filled()))
        self.assertIsNone(new.rule().gone())
        self.assertEqual(new.put("attic", 59, 1), False)

    def test_unlike_widths(self):
        for rule in OTHER_WIDTHS:
            for book in (filled(), Book(RULE, DAY), filled(EVER)):
                self.check_refused(NoRule, book_under, book, rule)
        self.check_refused(NoRule, book_under, Book(OTHER_WIDTHS[1], DAY), RULE)

    def test_the_book_stays_and_is_apart(self):
        book = filled()
        ahead = whole(book)
        for rule in RULES:
            new = book_under(book, rule)
            self.assertEqual(whole(book), ahead)
        self.check_apart(new, book)
        self.check_apart(book_under(book, book.rule()), book)


class Both(HouseCase):
    def test_by_hand(self):
        other = filled(RULE, 110, [("barn", ["dry"]), ("loft", ["hot"])],
                       [("barn", 104, 1, 1), ("barn", 92, 5, 1), ("loft", 70, 4, 2)])
        self.assertEqual(whole(both_books(filled(), other)), (STEPS, 40, 110, [105, 100, 90, 70], [
            ("attic", ["hot"], [], [(80, 10, 4, -2, -4, 10), (95, 5, 1, 7, 7, 7), (100, 1, 2, 2, 1, 1),
                                    (104, 1, 1, 8, 8, 8)]),
            ("barn", ["big", "dry", "wet"], [], [(70, 10, 3, 9, -9, 9), (80, 10, 2, 7, 3, 4), (90, 5, 1, 5, 5, 5),
                                                 (101, 1, 1, -2, -2, -2), (104, 1, 1, 1, 1, 1)]),
            ("cellar", [], [], []),
            ("loft", ["hot"], [], [(70, 10, 2, 8, 4, 4)])]))

    def test_either_way_round_and_on_any_days(self):
        names = [("barn", ["dry", "wet"]), ("loft", [])]
        readings = [("barn", 101, -2, 3), ("barn", 85, 0, 1), ("loft", 100, 4, 1), ("loft", 71, 4, 1)]
        both_names = [("attic", ["hot"]), ("barn", ["big", "dry", "wet"]), ("cellar", []), ("loft", [])]
        for rule in RULES:
            for day in (DAY - 30, DAY - 1, DAY, DAY + 1, DAY + 12, DAY + 100):
                one, other = filled(rule), filled(rule, day, names, readings)
                later = max(day, DAY)
                for new in (both_books(one, other), both_books(other, one)):
                    self.check_book(new, rule, later, plain_edges(rule, later), both_names, READINGS + readings)

    def test_the_greatest_edges_of_both_and_of_the_rule(self):
        edges = [120, 100, 80, 60]
        others = [115, 110, 80, 80]
        one = book_of(RULE, DAY, edges, NAMES, READINGS)
        other = book_of(RULE, 110, others, [("attic", [])], [("attic", 118, 3, 1)])
        for new in (both_books(one, other), both_books(other, one)):
            self.check_book(new, RULE, 110, [120, 110, 90, 80], NAMES, READINGS + [("attic", 118, 3, 1)])

    def test_a_name_of_one_alone_is_poured_on_or_let_go(self):
        one = filled(RULE, DAY, [("attic", [])], [("attic", 63, 1, 1), ("attic", 89, 2, 1), ("attic", 83, 3, 1)])
        for new in (both_books(one, Book(RULE, 110)), both_books(Book(RULE, 110), one)):
            self.assertEqual(told(new), [("attic", [], [], [(80, 10, 2, 5, 2, 3)])])
        self.assertEqual(told(both_books(one, Book(RULE, 1000))), [("attic", [], [], [])])

    def test_with_itself(self):
        for rule in RULES:
            book = filled(rule)
            new = both_books(book, book)
            self.check_book(new, rule, DAY, plain_edges(rule, DAY), NAMES, READINGS + READINGS)
            self.check_apart(new, book)

    def test_with_itself_often(self):
        book = filled()
        for i in range(20):
            book = both_books(book, book)
        many = 2 ** 20
        self.assertEqual(told(book)[0][2], [(100, 1, 2 * many), (104, 8, many)])
        self.check_book(book, RULE, DAY, OWN, NAMES, [row[:3] + (row[3] * many,) for row in READINGS])

    def test_without_names(self):
        self.check_book(both_books(Book(RULE, DAY), Book(RULE, 110)), RULE, 110, [105, 100, 90, 70], [], [])
        self.check_book(both_books(Book(RULE, DAY), filled()), RULE, DAY, OWN)

    def test_unlike_rules(self):
        for i, one in enumerate(RULES + OTHER_WIDTHS):
            for j, other in enumerate(RULES + OTHER_WIDTHS):
                if i != j:
                    self.check_refused(NoRule, both_books, Book(one, DAY), Book(other, DAY))
                    self.check_refused(NoRule, both_books, filled(one), filled(other))

    def test_equal_rules_need_not_be_one_rule(self):
        new = both_books(filled(), filled(Rule(list(STEPS), 40)))
        self.check_book(new, RULE, DAY, OWN, NAMES, READINGS + READINGS)

    def test_marks_that_come_to_eight_and_to_nine(self):
        one = filled(RULE, DAY, [("attic", EIGHT[:5])], [])
        other = filled(RULE, DAY, [("attic", EIGHT[4:])], [])
        self.assertEqual(both_books(one, other).marks("attic"), EIGHT)
        other = filled(RULE, DAY, [("attic", EIGHT[5:] + ["z"])], [])
        self.check_refused(NoMark, both_books, one, other)
        self.check_refused(NoMark, both_books, other, one)
        # Of two names one is enough, and nine unlike marks of unlike names are none too many.
        more = filled(RULE, DAY, [("zz", EIGHT), ("attic", ["x"])], [])
        self.check_refused(NoMark, both_books, filled(RULE, DAY, [("zz", ["x"]), ("attic", EIGHT[:7])], []), more)
        self.assertEqual(both_books(filled(RULE, DAY, [("aa", ["x"])], []), more).marks("zz"), EIGHT)

    def test_no_rule_goes_ahead_of_no_mark(self):
        one = filled(RULE, DAY, [("attic", EIGHT)], [])
        self.check_refused(NoRule, both_books, one, filled(EVER, DAY, [("attic", ["z"])], []))

    def test_both_books_stay_and_are_apart(self):
        one, other = filled(), filled(RULE, 110, [("loft", ["hot"]), ("attic", ["dry"])], [("loft", 100, 1, 1)])
        ahead = (whole(one), whole(other))
        new = both_books(one, other)
        self.assertEqual((whole(one), whole(other)), ahead)
        self.check_apart(new, one)
        self.check_apart(new, other)
        self.check_apart(one, other)


class AtOnce(HouseCase):
    def test_by_hand(self):
        book = book_of(RULE, DAY, [100, 95, 80, 60], [("b", ["y", "x"]), ("a", [])],
                       [("a", 100, 1, 1), ("b", 99, 2, 2), ("a", 94, 3, 1), ("b", 59, 4, 1), ("a", 100, 1, 2)])
        self.assertEqual(whole(book), (STEPS, 40, DAY, [100, 95, 80, 60], [
            ("a", [], [(100, 1, 3)], [(90, 5, 1, 3, 3, 3)]), ("b", ["x", "y"], [], [(99, 1, 2, 4, 2, 2)])]))

    def test_edges_told_and_the_rule_s_own(self):
        for rule in RULES:
            for edges in (OWN, [98, 90, 80, None], [0, 0, 0, 0], [0, 0, 0, None], [200, 200, 200, 200],
                          [105, 85, 80, None], [97, 95, 70, 70], [-9, -10, -20, -30], [BIG, 0, 0, 0]):
                book = book_of(rule, DAY, edges, NAMES, READINGS)
                self.check_book(book, rule, DAY, plain_greater(edges, plain_edges(rule, DAY)))

    def test_as_a_book_put_to(self):
        self.assertEqual(whole(book_of(RULE, DAY, OWN, NAMES, READINGS)), whole(filled()))
        self.assertEqual(whole(book_of(EVER, DAY, [98, 90, 80, None], NAMES, READINGS)), whole(filled(EVER)))

    def test_any_order_and_in_pieces(self):
        chance = random.Random(3)
        ones = [row[:3] + (1,) for row in READINGS for i in range(row[3])]
        for i in range(20):
            book = book_of(RULE, DAY, OWN, chance.sample(NAMES, 3), chance.sample(ones, len(ones)))
            self.assertEqual(whole(book), whole(filled()))

    def test_edges_of_another_length(self):
        for edges in ([], [98], OWN[:3], OWN + [None], OWN + [0], [98, 90, 80, 80, 60]):
            self.check_refused(NoRule, book_of, RULE, DAY, edges, NAMES, READINGS)

    def test_names_as_they_are_enrolled(self):
        for names, kind in [
            ([("Attic", [])], NoName), ([("attic", []), ("attic", [])], NoName), ([("attic", ["Hot"])], NoMark),
            ([("attic", ["hot", "hot"])], NoMark), ([("attic", EIGHT + ["i"])], NoMark),
            ([("abcdefghijklm", [])], NoName), ([("attic", []), ("barn", ["abcdefghi"])], NoMark),
            # The first one to be refused.
            ([("attic", ["Hot"]), ("Barn", [])], NoMark), ([("Barn", []), ("attic", ["Hot"])], NoName),
            ([("Barn", ["Hot"])], NoName),
        ]:
            with self.subTest(names=names):
                self.check_refused(kind, book_of, RULE, DAY, OWN, names, [])

    def test_readings_as_they_are_put(self):
        for readings, kind in [
            ([("loft", 100, 1, 1)], NoName), ([("attic", 100, 1, 0)], NoNumber), ([("attic", 0, 1, 0)], NoNumber),
            ([("loft", 100, 1, 0)], NoName), ([("attic", 100, 1, 1), ("loft", 0, 1, 1)], NoName),
            ([("attic", 100, 1, -1), ("loft", 0, 1, 1)], NoNumber), ([("loft", 0, 1, 1), ("attic", 0, 1, -1)], NoName),
        ]:
            with self.subTest(readings=readings):
                self.check_refused(kind, book_of, RULE, DAY, OWN, NAMES, readings)

    def test_edges_go_ahead_of_names_and_names_ahead_of_readings(self):
        self.check_refused(NoRule, book_of, RULE, DAY, OWN[:3], [("Attic", [])], [("loft", 100, 1, 0)])
        self.check_refused(NoMark, book_of, RULE, DAY, OWN, [("attic", ["Hot"])], [("loft", 100, 1, 1)])
        self.check_refused(NoName, book_of, RULE, DAY, OWN, [("attic", []), ("attic", [])], [("attic", 100, 1, 0)])

    def test_lists_handed_in_stay_as_they_are_and_apart(self):
        edges, marks = [100, 90, 80, 60], ["wet", "hot"]
        names, readings = [("attic", marks)], [("attic", 101, 1, 1), ("attic", 99, 1, 1)]
        book = book_of(RULE, DAY, edges, names, readings)
        self.assertEqual((edges, marks, names), ([100, 90, 80, 60], ["wet", "hot"], [("attic", marks)]))
        self.assertEqual(readings, [("attic", 101, 1, 1), ("attic", 99, 1, 1)])
        ahead = whole(book)
        edges[0] = 200
        for thing in (marks, names, readings):
            thing.clear()
        self.assertEqual(whole(book), ahead)
        self.assertEqual((book.put("attic", 100, 5), book.roll("attic").young()), (True, [(100, 5, 1), (101, 1, 1)]))


class Told(HouseCase):
    def test_by_hand(self):
        self.assertEqual(told(filled()), [
            ("attic", ["hot"], [(100, 1, 2), (104, 8, 1)],
             [(60, 10, 1, 5, 5, 5), (85, 5, 4, -2, -4, 10), (97, 1, 1, 7, 7, 7)]),
            ("barn", ["big", "wet"], [(101, -2, 1)], [(70, 10, 3, 9, -9, 9), (85, 5, 2, 7, 3, 4)]),
            ("cellar", [], [], [])])
        self.assertEqual(told(Book(RULE, DAY)), [])

    def test_as_the_rolls_tell(self):
        book = filled()
        for name, marks, young, heaps in told(book):
            roll = book.roll(name)
            self.assertEqual((marks, young, heaps), (book.marks(name), roll.young(), roll.heaps()))

    def test_the_kinds_told(self):
        rows = told(filled())
        self.assertIs(type(rows), list)
        for row in rows:
            self.assertEqual([type(thing) for thing in (row,) + row], [tuple, str, list, list, list])

    def test_what_is_told_is_the_asker_s_own(self):
        book = filled()
        ahead = told(book)
        rows = told(book)
        for row in rows:
            for thing in row[1:]:
                thing.append("zzz")
                thing.reverse()
        rows.clear()
        self.assertEqual(told(book), ahead)
        kept = told(book)
        self.put_everywhere(book)
        self.assertEqual(kept, ahead)


class Size(HouseCase):
    def test_by_hand(self):
        # The room of the rule is (10 - 5 + 4) // 1 + (20 - 10 + 9) // 5 + (40 - 20 + 9) // 10 = 9 + 3 + 2.
        self.assertEqual(size(filled()), (5, 14 * 3))
        self.assertEqual(size(filled(EVER)), (6, None))
        self.assertEqual(size(Book(RULE, DAY)), (0, 0))
        self.assertEqual(size(Book(EVER, DAY)), (0, None))
        self.assertEqual(size(filled(RULE, DAY, [("a", []), ("b", [])], [("a", 100, 1, 1)])), (0, 28))
        self.assertIs(type(size(filled())), tuple)

    def test_a_room_of_nought(self):
        book = filled(Rule([(0, 1)], 0), DAY)
        self.assertEqual(size(book), (0, 0))

    def test_it_changes_nothing(self):
        book = filled()
        ahead = whole(book)
        size(book)
        self.assertEqual(whole(book), ahead)

    def test_edges_that_were_told_may_go_beyond_it(self):
        book = book_of(RULE, DAY, [200, 90, 80, 60], [("a", [])], [("a", time, 1, 1) for time in range(90, 200)])
        self.assertEqual(size(book), (110, 14))

    def test_as_many_heaps_as_can_be(self):
        for rule in (RULE, Rule([(0, 1), (7, 7)], 20), Rule([(3, 2), (3, 4), (10, 12)], 30), Rule([(0, 5)], 4)):
            most = 0
            for day in range(100, 130):
                readings = [("a", time, 1, 1) for time in range(0, 200)]
                heaps, room = size(filled(rule, day, [("a", [])], readings))
                self.assertLessEqual(heaps, room)
                most = max(most, heaps)
            self.assertGreater(most, 0)


class History:
    """A book made by deeds, and beside it all that ever came into it."""

    def __init__(self, rule, day):
        self.book = Book(rule, day)
        self.rule, self.day, self.edges = rule, day, plain_edges(rule, day)
        self.names, self.readings = {}, []

    def enrol(self, name, marks):
        if name not in self.names:
            self.book.enrol(name, marks)
            self.names[name] = set(marks)

    def put(self, name, time, value, many):
        kept = self.book.put(name, time, value, many)
        self.readings.append((name, time, value, many))
        return kept == (self.edges[-1] is None or time >= self.edges[-1])

    def moved(self, book, rule, day):
        new = History(rule, day)
        new.book = book
        new.edges = plain_greater(self.edges, new.edges)
        new.names = {name: set(marks) for name, marks in self.names.items()}
        new.readings = list(self.readings)
        return new

    def aged(self, day):
        return self.moved(aged_book(self.book, day), self.rule, day)

    def under(self, rule):
        return self.moved(book_under(self.book, rule), rule, self.day)

    def both(self, other):
        new = self.moved(both_books(self.book, other.book), self.rule, max(self.day, other.day))
        new.edges = plain_greater(new.edges, other.edges)
        for name, marks in other.names.items():
            new.names[name] = new.names.get(name, set()) | marks
        new.readings += other.readings
        return new

    def names_told(self):
        return [(name, sorted(marks)) for name, marks in self.names.items()]


def any_reading(chance, history):
    name = chance.choice(sorted(history.names))
    return (name, history.day + chance.randint(-60, 5), chance.randint(-9, 9), chance.choice([1, 1, 1, 2, 3]))


def any_history(chance, rules, deeds):
    """Some books, made by mixed deeds; a deed leaves the books that it was done with among them."""
    shelf = [History(rules[0], chance.randint(-20, 20)) for i in range(2)]
    for i in range(deeds):
        one = chance.choice(shelf[-3:])
        deed = chance.randint(0, 9)
        if deed < 2 or not one.names:
            one.enrol(chance.choice(["attic", "barn", "cellar"]), chance.sample(EIGHT[:4], chance.randint(0, 2)))
        elif deed < 6:
            for j in range(4):
                one.put(*any_reading(chance, one))
        elif deed == 6:
            shelf.append(one.aged(one.day + chance.choice([0, 1, 3, 8, 25])))
        elif deed == 7:
            shelf.append(one.under(chance.choice(rules)))
        else:
            other = chance.choice([two for two in shelf if two.rule is one.rule])
            if len(one.readings) + len(other.readings) < 200:
                shelf.append(one.both(other))
    return shelf


def true_answer(word, values):
    if word == "many":
        return len(values)
    if word == "sum":
        return sum(values)
    if not values:
        return None
    if word == "mean":
        return fractions.Fraction(sum(values), len(values))
    return min(values) if word == "least" else max(values)


def as_number(word, end):
    return fractions.Fraction(*end) if word == "mean" and end is not None else end


class Histories(HouseCase):
    def test_any_deeds_come_to_the_book_made_at_once(self):
        chance = random.Random(11)
        for i in range(150):
            for history in any_history(chance, RULES, 30):
                names = history.names_told()
                self.check_book(history.book, history.rule, history.day, history.edges, names, history.readings)
                at_once = book_of(history.rule, history.day, history.edges, chance.sample(names, len(names)),
                                  chance.sample(history.readings, len(history.readings)))
                self.assertEqual(whole(at_once), whole(history.book))

    def test_what_is_kept_or_gone_is_told_when_it_is_put(self):
        chance = random.Random(12)
        for i in range(60):
            for history in any_history(chance, RULES, 20):
                if history.names:
                    self.assertTrue(all(history.put(*any_reading(chance, history)) for j in range(5)))

    def test_under_one_rule_no_more_heaps_than_its_size_tells(self):
        chance = random.Random(13)
        for rule in (RULE, RULES[2], RULES[3], Rule([(0, 1), (7, 7)], 9), Rule([(3, 2), (3, 4), (10, 12)], 30)):
            for i in range(30):
                for history in any_history(chance, [rule], 30):
                    heaps, most = size(history.book)
                    self.assertEqual(heaps, sum(len(row[3]) for row in told(history.book)))
                    self.assertEqual(most, rule.room() * len(history.names))
                    self.assertLessEqual(heaps, most)

    def test_pouring_first_and_ageing_then(self):
        chance = random.Random(14)
        for i in range(40):
            shelf = any_history(chance, [RULES[i % 5]], 25)
            one, other = chance.choice(shelf), chance.choice(shelf)
            day = max(one.day, other.day) + chance.randint(0, 30)
            poured_first = aged_book(both_books(one.book, other.book), day)
            for aged_first in (both_books(aged_book(one.book, day), aged_book(other.book, day)),
                               both_books(one.book, aged_book(other.book, day)),
                               both_books(aged_book(other.book, day), one.book)):
                self.assertEqual(whole(aged_first), whole(poured_first))

    def test_late_readings_come_to_the_same_as_early_ones(self):
        chance = random.Random(15)
        for i in range(40):
            day = chance.randint(-30, 30)
            readings = [("a", day + chance.randint(-50, 10), chance.randint(-9, 9), 1) for j in range(30)]
            early = Book(RULE, day)
            late = Book(RULE, day)
            for book in (early, late):
                book.enrol("a")
            for reading in readings:
                early.put(*reading)
            early, late = aged_book(early, day + 17), aged_book(late, day + 17)
            for reading in readings:
                late.put(*reading)
            self.assertEqual(whole(early), whole(late))


class WholeProgram(HouseCase):
    """The true answer lies within the pair, and for either end readings are shown that make the very same book."""

    def stretches(self, chance, book):
        first = book.edges()[0] - 60 if book.edges()[-1] is None else book.edges()[-1]
        for i in range(3):
            a = first + chance.randint(0, 70)
            yield a, chance.choice([None, a + chance.randint(1, 30)])

    def check_shown(self, book, names, word, a, b, high, end):
        rolls = [book.roll(name) for name in names]
        rows = shown(word, rolls, a, b, high)
        readings = [(name,) + reading for name, row in zip(names, rows) for reading in row]
        marked = [(name, book.marks(name)) for name in names]
        again = book_of(book.rule(), book.day(), book.edges(), marked, readings)
        self.assertEqual(told(again), [row for row in told(book) if row[0] in names])
        inside = [row for row in readings if a <= row[1] and (b is None or row[1] < b)]
        values = [value for name, time, value, many in inside for i in range(many)]
        self.assertEqual(true_answer(word, values), as_number(word, end))

    def check_word(self, book, readings, lets, word, a, b):
        names = book.chosen(lets)
        pair = book.of_all(word, lets, a, b)
        values = [value for name, time, value, many in readings for i in range(many)
                  if name in names and a <= time and (b is None or time < b)]
        true = true_answer(word, values)
        if true is not None:
            self.assertLessEqual(as_number(word, pair[0]), true)
            self.assertLessEqual(true, as_number(word, pair[1]))
        for high in (False, True):
            if pair[high] is not None:
                self.check_shown(book, names, word, a, b, high, pair[high])

    def test_histories(self):
        chance = random.Random(16)
        for i in range(40):
            for history in any_history(chance, RULES, 24)[-3:]:
                book = history.book
                ahead = whole(book)
                for a, b in self.stretches(chance, book):
                    for text in ("", "a", "-b"):
                        for word in WORDS:
                            self.check_word(book, history.readings, sieve(text), word, a, b)
                self.assertEqual(whole(book), ahead)

    def test_edges_of_the_plain_model(self):
        for rule in RULES:
            for day in (-101, -1, 0, 7, 103):
                self.assertEqual(plain_edges(rule, day), edges_at(rule, day))


if __name__ == "__main__":
    unittest.main()
