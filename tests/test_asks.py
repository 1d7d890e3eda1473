"""Promises 25, 26 and 29: the pieces of rolls for a stretch of time, and what is told of several rolls at once."""

import random
import unittest

from thinbook.ages import aged, both, roll_of, under
from thinbook.asks import asked, pieces
from thinbook.edges import edges_at
from thinbook.errors import Gone, NoAsk
from thinbook.measures import measure
from thinbook.rolls import Roll
from thinbook.rules import Rule

BIG = 10 ** 40 + 7

WORDS = ["many", "sum", "least", "greatest", "mean"]
STEPS = [(5, 1), (10, 5), (20, 10)]
# The edges of this rule on the day 103 are 98, 90, 80 and, of gone, 60.
RULE = Rule(STEPS, 40)
EVER = Rule(STEPS)
DAY = 103
READINGS = [(104, 8, 1), (100, 1, 2), (100, -1, 1), (98, 4, 1), (97, 7, 1), (91, -3, 1), (89, 5, 2), (85, 6, 1),
            (80, 2, 1), (79, 9, 1), (70, -9, 1), (69, 0, 3), (60, 1, 1)]
YOUNG = [(98, (1, 4, 4, 4)), (100, (1, -1, -1, -1)), (100, (2, 2, 1, 1)), (104, (1, 8, 8, 8))]
HEAPS = [(60, 10, (4, 1, 0, 1)), (70, 10, (2, 0, -9, 9)), (80, 5, (1, 2, 2, 2)), (85, 5, (3, 16, 5, 6)),
         (91, 1, (1, -3, -3, -3)), (97, 1, (1, 7, 7, 7))]


def filled(readings=READINGS, rule=RULE, day=DAY):
    return roll_of(rule, day, edges_at(rule, day), readings)


def whole(roll):
    """All that a roll tells."""
    return (roll.rule().steps(), roll.rule().gone(), roll.day(), roll.edges(), roll.young(), roll.heaps())


def is_in(time, a, b):
    return (a is None or a <= time) and (b is None or time < b)


def plain_pieces(roll, a, b):
    """The pieces by the document's words, time by time."""
    known, parts = [], []
    for start, width, many, total, least, greatest in roll.heaps():
        inside = [is_in(time, a, b) for time in range(start, start + width)]
        if all(inside):
            known.append((many, total, least, greatest))
        elif any(inside):
            parts.append((start, width, (many, total, least, greatest)))
    known += [(many, value * many, value, value) for time, value, many in roll.young() if is_in(time, a, b)]
    return (known, parts)


class AskCase(unittest.TestCase):
    def check_gone(self, edge, deed, *handed):
        with self.assertRaises(Gone) as caught:
            deed(*handed)
        self.assertIs(type(caught.exception), Gone)
        self.assertEqual(caught.exception.edge, edge)


class Pieces(AskCase):
    def test_the_roll_of_these_tests(self):
        self.assertEqual([row[:2] + (row[2:],) for row in filled().heaps()], HEAPS)
        self.assertEqual([row[0] for row in filled().young()], [time for time, heap in YOUNG])

    def test_all_of_it(self):
        heaps = [heap for start, width, heap in HEAPS] + [heap for time, heap in YOUNG]
        for b in (None, 105, 106, BIG):
            self.assertEqual(pieces(filled(), 60, b), (heaps, []))

    def test_heaps_come_ahead_of_young_ones(self):
        self.assertEqual(pieces(filled(), 91, 101), ([(1, -3, -3, -3), (1, 7, 7, 7), (1, 4, 4, 4), (1, -1, -1, -1),
                                                      (2, 2, 1, 1)], []))

    def test_a_stretch_that_cuts_a_heap_at_its_first_and_its_last_time(self):
        heap = (2, 0, -9, 9)
        roll = filled([(70, -9, 1), (79, 9, 1)])
        for a, b, told in [
            (60, 70, ([], [])), (60, 71, ([], [(70, 10, heap)])), (60, 79, ([], [(70, 10, heap)])),
            (60, 80, ([heap], [])), (70, 80, ([heap], [])), (70, 79, ([], [(70, 10, heap)])),
            (70, 71, ([], [(70, 10, heap)])), (71, 80, ([], [(70, 10, heap)])), (79, 80, ([], [(70, 10, heap)])),
            (79, None, ([], [(70, 10, heap)])), (80, None, ([], [])), (80, 90, ([], [])),
            (74, 75, ([], [(70, 10, heap)])), (69, 81, ([heap], [])),
        ]:
            with self.subTest(a=a, b=b):
                self.assertEqual(pieces(roll, a, b), told)

    def test_both_ends_cut_a_heap_each(self):
        known, parts = pieces(filled(), 75, 87)
        self.assertEqual(known, [(1, 2, 2, 2)])
        self.assertEqual(parts, [(70, 10, (2, 0, -9, 9)), (85, 5, (3, 16, 5, 6))])

    def test_both_ends_cut_one_heap(self):
        self.assertEqual(pieces(filled(), 71, 79), ([], [(70, 10, (2, 0, -9, 9))]))

    def test_a_heap_is_cut_though_its_readings_lie_elsewhere(self):
        # The one reading of the cell (80, 5) has the time 80.
        self.assertEqual(pieces(filled(), 83, 85), ([], [(80, 5, (1, 2, 2, 2))]))

    def test_a_cell_without_readings_is_no_part(self):
        self.assertEqual(pieces(filled([(70, 1, 1)]), 83, 87), ([], []))

    def test_a_heap_one_time_wide_is_never_cut(self):
        for a, b, known in [(91, 92, 1), (90, 91, 0), (92, 93, 0), (91, None, 1)]:
            self.assertEqual(pieces(filled([(91, -3, 1)]), a, b), ([(1, -3, -3, -3)] * known, []))

    def test_young_ones_at_the_ends(self):
        for a, b, many in [(100, 101, 2), (99, 100, 0), (101, 104, 0), (104, 105, 1), (98, 104, 3), (98, 105, 4)]:
            self.assertEqual(pieces(filled(), a, b)[0], [heap for time, heap in YOUNG if a <= time < b])
            self.assertEqual(len(pieces(filled(), a, b)[0]), many)

    def test_without_begin_or_end(self):
        roll = filled(READINGS, EVER)
        every = [heap for start, width, heap in HEAPS] + [heap for time, heap in YOUNG]
        self.assertEqual(pieces(roll, None, None), (every, []))
        self.assertEqual(pieces(roll, None, 75), ([(4, 1, 0, 1)], [(70, 10, (2, 0, -9, 9))]))
        self.assertEqual(pieces(roll, 99, None), ([heap for time, heap in YOUNG[1:]], []))
        self.assertEqual(pieces(roll, None, -BIG), ([], []))
        self.assertEqual(pieces(roll, BIG, None), ([], []))

    def test_a_stretch_without_times(self):
        for a, b in [(75, 75), (76, 75), (75, 60), (80, 70), (100, 100), (101, 100), (105, 60), (70, 70), (79, 71)]:
            with self.subTest(a=a, b=b):
                self.assertEqual(pieces(filled(), a, b), ([], []))
                self.assertEqual(pieces(filled(READINGS, EVER), a, b), ([], []))

    def test_a_roll_without_readings(self):
        self.assertEqual(pieces(Roll(EVER, DAY), None, None), ([], []))
        self.assertEqual(pieces(Roll(RULE, DAY), 60, None), ([], []))

    def test_each_stretch(self):
        roll = filled(READINGS, EVER)
        ends = [None] + list(range(57, 107))
        for a in ends:
            for b in ends:
                self.assertEqual(pieces(roll, a, b), plain_pieces(roll, a, b), (a, b))

    def test_edges_that_are_not_the_rule_s(self):
        roll = roll_of(EVER, DAY, [110, 100, 90, None], READINGS)
        for a in range(58, 112):
            for b in (None, a + 1, a + 7, a + 25):
                self.assertEqual(pieces(roll, a, b), plain_pieces(roll, a, b), (a, b))

    def test_times_below_nought(self):
        roll = roll_of(Rule([(0, 7)]), -3, [0, None], [(-8, 1, 1), (-7, 2, 1), (-1, 3, 1), (0, 4, 1)])
        for a in [None] + list(range(-16, 3)):
            for b in [None] + list(range(-16, 3)):
                self.assertEqual(pieces(roll, a, b), plain_pieces(roll, a, b), (a, b))

    def test_big_numbers(self):
        roll = roll_of(Rule([(0, BIG)]), 0, [0, None], [(-1, BIG, BIG), (-BIG, -BIG, 1), (BIG, 3, 2)])
        heap = (BIG + 1, BIG * BIG - BIG, -BIG, BIG)
        self.assertEqual(pieces(roll, -BIG, BIG + 1), ([heap, (2, 6, 3, 3)], []))
        self.assertEqual(pieces(roll, -BIG, 0), ([heap], []))
        self.assertEqual(pieces(roll, 1 - BIG, BIG), ([], [(-BIG, BIG, heap)]))
        self.assertEqual(pieces(roll, None, -1), ([], [(-BIG, BIG, heap)]))

    def test_the_kinds_told(self):
        told = pieces(filled(), 75, 87)
        self.assertEqual([type(told), type(told[0]), type(told[1])], [tuple, list, list])
        for thing in told[0] + told[1] + [told[1][0][2]]:
            self.assertIs(type(thing), tuple)

    def test_nothing_changes(self):
        roll = filled()
        kept = whole(roll)
        for a, b in [(75, 87), (60, None), (100, 90)]:
            known, parts = pieces(roll, a, b)
            again = pieces(roll, a, b)
            known.append((1, 1, 1, 1))
            parts.clear()
            self.assertEqual(pieces(roll, a, b), again)
            self.assertEqual(whole(roll), kept)

    def test_what_is_put_later_changes_nothing_that_was_told(self):
        roll = filled()
        told = pieces(roll, 75, 102)
        kept = (list(told[0]), list(told[1]))
        for time in (75, 80, 86, 91, 97, 98, 100):
            roll.put(time, 50, 2)
        self.assertEqual(told, kept)


class GoneTimes(AskCase):
    def test_a_at_one_below_and_one_above_the_edge(self):
        roll = filled()
        self.check_gone(60, pieces, roll, 59, None)
        self.assertEqual(pieces(roll, 60, 70), ([(4, 1, 0, 1)], []))
        self.assertEqual(pieces(roll, 61, 70), ([], [(60, 10, (4, 1, 0, 1))]))
        self.check_gone(60, pieces, roll, -BIG, 100)

    def test_no_begin(self):
        self.check_gone(60, pieces, filled(), None, None)
        self.check_gone(60, pieces, filled(), None, 100)

    def test_a_stretch_without_times(self):
        for a, b in [(59, 59), (59, 58), (None, 10), (-5, -7), (0, 0)]:
            self.check_gone(60, pieces, filled(), a, b)
        self.assertEqual(pieces(filled(), 60, 60), ([], []))
        self.assertEqual(pieces(filled(), 60, 59), ([], []))
        self.assertEqual(pieces(filled(), 60, -BIG), ([], []))

    def test_a_roll_without_readings(self):
        self.check_gone(60, pieces, Roll(RULE, DAY), 59, None)

    def test_without_an_edge_of_gone(self):
        for a in (None, -BIG, 59):
            pieces(filled(READINGS, EVER), a, None)

    def test_it_goes_by_the_roll_s_edges_not_by_its_rule(self):
        roll = roll_of(RULE, DAY, [100, 90, 80, 70], READINGS)
        self.check_gone(70, pieces, roll, 69, None)
        self.assertEqual(pieces(roll, 70, 80), ([(2, 0, -9, 9)], []))
        late = under(filled(), Rule(STEPS))
        self.assertIsNone(late.rule().gone())
        self.check_gone(60, pieces, late, 59, None)

    def test_an_edge_of_nought_is_a_number(self):
        roll = filled([(5, 1, 1)], RULE, 40)
        self.assertEqual(roll.edges()[-1], 0)
        self.check_gone(0, pieces, roll, -1, None)
        self.check_gone(0, pieces, roll, None, None)
        self.assertEqual(pieces(roll, 0, 10), ([(1, 1, 1, 1)], []))

    def test_an_edge_below_nought(self):
        roll = filled([], RULE, 0)
        self.assertEqual(roll.edges()[-1], -40)
        self.check_gone(-40, pieces, roll, -41, 5)
        self.assertEqual(pieces(roll, -40, 5), ([], []))

    def test_what_is_refused_changes_nothing(self):
        roll = filled()
        kept = whole(roll)
        self.check_gone(60, pieces, roll, 59, None)
        self.check_gone(60, asked, "many", [roll], 59)
        self.assertEqual(whole(roll), kept)


class Asked(AskCase):
    def check_asked(self, rolls, a, b, pairs):
        for word, pair in zip(WORDS, pairs):
            with self.subTest(word=word, a=a, b=b):
                self.assertEqual(asked(word, rolls, a, b), pair)

    def test_one_roll(self):
        # Known is the 2 of (80, 5); the parts' widest rows are -9, 9 and 5, 5, 6.
        self.check_asked([filled()], 75, 87, [(1, 6), (-7, 27), (-9, 2), (2, 9), ((-7, 2), (17, 3))])

    def test_no_rolls(self):
        for a, b in [(None, None), (5, 3), (-BIG, None), (None, 7)]:
            self.check_asked([], a, b, [(0, 0), (0, 0), (None, None), (None, None), (None, None)])

    def test_rolls_without_readings_in_the_stretch(self):
        self.check_asked([filled(), Roll(RULE, DAY)], 106, None,
                         [(0, 0), (0, 0), (None, None), (None, None), (None, None)])

    def test_a_and_b_may_be_left_out(self):
        roll = filled(READINGS, EVER)
        self.assertEqual(asked("many", [roll]), (17, 17))
        self.assertEqual(asked("many", [roll], 98), (5, 5))
        self.assertEqual(asked("many", [roll], None, 75), (4, 6))
        self.assertEqual(asked("many", [roll], b=75), (4, 6))
        self.assertEqual(asked("sum", [roll], a=104), (8, 8))
        self.assertEqual(asked("many", []), (0, 0))

    def test_several_rolls_laid_together(self):
        # Of the one the heap (2, 10, 4, 6) is known, of the other (3, 3, -2, 4) is a part.
        one = filled([(82, 4, 1), (84, 6, 1)])
        other = filled([(75, -2, 1), (71, 1, 1), (72, 4, 1)])
        for rolls in ([one, other], [other, one]):
            self.check_asked(rolls, 75, 90, [(2, 5), (8, 15), (-2, 4), (6, 6), ((9, 4), (5, 1))])

    def test_the_same_roll_twice(self):
        roll = filled()
        self.check_asked([roll, roll], 75, 87, [(2, 12), (-14, 54), (-9, 2), (2, 9), ((-7, 2), (17, 3))])

    def test_the_mean_of_several_parts_is_not_that_of_each_one(self):
        one, other = filled([(82, 10, 1), (75, 4, 1)]), filled([(71, 1, 1)])
        self.check_asked([one, other], 72, 85, [(1, 3), (10, 15), (1, 10), (10, 10), ((5, 1), (10, 1))])

    def test_unlike_edges(self):
        readings = [(70, 1, 1), (78, 2, 1), (85, 3, 1), (101, 4, 1)]
        rolls = [filled(readings), aged(filled(readings), 115), filled(readings, EVER)]
        for a in range(70, 104):
            for b in (None, a, a + 3, a + 13):
                known, parts = [], []
                for roll in rolls:
                    some = plain_pieces(roll, a, b)
                    known, parts = known + some[0], parts + some[1]
                most = sum(heap[0] for heap in known) + sum(part[2][0] for part in parts)
                self.assertEqual(asked("many", rolls, a, b), (sum(heap[0] for heap in known), most))

    def test_gone_tells_the_greatest_edge(self):
        first, second = filled(), aged(filled(), 115)
        ever = filled(READINGS, EVER)
        self.assertEqual([roll.edges()[-1] for roll in (first, second, ever)], [60, 70, None])
        for rolls in ([first, second], [second, first], [ever, first, second], [second, ever, first, ever]):
            for a in (None, 69, 60, 59, -BIG):
                self.check_gone(70, asked, "many", rolls, a, None)
            self.check_gone(70, asked, "mean", rolls, 65, 3)
            asked("many", rolls, 70, None)
            asked("many", rolls, 71, None)
        for rolls in ([first, ever], [ever, first]):
            self.check_gone(60, asked, "sum", rolls, 59, 100)
            asked("sum", rolls, 60, 100)
        asked("sum", [ever, ever], None, None)

    def test_an_edge_of_gone_at_nought_among_others(self):
        nought, below = filled([], RULE, 40), filled([], RULE, 0)
        for rolls in ([nought, below], [below, nought], [filled([], EVER), below, nought]):
            self.check_gone(0, asked, "many", rolls, -1, None)
            self.check_gone(0, asked, "many", rolls, None, None)
            self.assertEqual(asked("many", rolls, 0), (0, 0))

    def test_no_ask(self):
        for word in ("", "all", "Mean", "many ", "sums"):
            for rolls, a in [([], None), ([filled()], 60), ([filled(READINGS, EVER)], None)]:
                with self.subTest(word=word):
                    with self.assertRaises(NoAsk) as caught:
                        asked(word, rolls, a)
                    self.assertIs(type(caught.exception), NoAsk)

    def test_no_ask_goes_ahead_of_gone(self):
        for a in (None, 59):
            for word in ("", "median"):
                with self.assertRaises(NoAsk):
                    asked(word, [filled()], a, None)

    def test_nothing_changes(self):
        rolls = [filled(), aged(filled(), 110), both(filled(), filled())]
        handed, kept = list(rolls), [whole(roll) for roll in rolls]
        for word in WORDS:
            told = asked(word, rolls, 75, 100)
            self.assertIs(type(told), tuple)
            self.assertEqual(asked(word, rolls, 75, 100), told)
            self.assertEqual(asked(word, handed, 75, 100), told)
        self.assertEqual(rolls, handed)
        self.assertEqual([whole(roll) for roll in rolls], kept)

    def test_it_is_told_of_the_pieces(self):
        dice = random.Random(29)
        for case in range(60):
            rolls = [filled([(dice.randrange(60, 110), dice.randrange(-9, 10), dice.randrange(1, 4))
                             for number in range(dice.randrange(12))]) for roll in range(dice.randrange(4))]
            a = dice.randrange(60, 110)
            b = dice.choice([None, dice.randrange(60, 110)])
            several = [plain_pieces(roll, a, b) for roll in rolls]
            known = [heap for some in several for heap in some[0]]
            parts = [part[2] for some in several for part in some[1]]
            for word in WORDS:
                self.assertEqual(asked(word, rolls, a, b), measure(word).told(known, parts), (word, a, b))


if __name__ == "__main__":
    unittest.main()
