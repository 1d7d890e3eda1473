"""Promises 30 and 31: readings that make the very rolls that are asked, and have the answer at an end."""

import math
import random
import unittest

from thinbook.ages import aged, both, roll_of, under
from thinbook.asks import asked
from thinbook.edges import cell_at, edges_at
from thinbook.errors import Gone, NoAnswer, NoAsk
from thinbook.rolls import Roll
from thinbook.rules import Rule
from thinbook.shown import shown

BIG = 10 ** 40 + 7

WORDS = ["many", "sum", "least", "greatest", "mean"]
STEPS = [(5, 1), (10, 5), (20, 10)]
# The edges of this rule on the day 103 are 98, 90, 80 and, of gone, 60.
RULE = Rule(STEPS, 40)
EVER = Rule(STEPS)
DAY = 103
READINGS = [(104, 8, 1), (100, 1, 2), (100, -1, 1), (98, 4, 1), (97, 7, 1), (91, -3, 1), (89, 5, 2), (85, 6, 1),
            (80, 2, 1), (79, 9, 1), (78, 3, 2), (70, -9, 1), (69, 0, 3), (66, -4, 1), (60, 1, 1)]


def filled(readings=READINGS, rule=RULE, day=DAY):
    return roll_of(rule, day, edges_at(rule, day), readings)


def whole(roll):
    """All that a roll tells."""
    return (roll.rule().steps(), roll.rule().gone(), roll.day(), roll.edges(), roll.young(), roll.heaps())


def is_in(time, a, b):
    return (a is None or a <= time) and (b is None or time < b)


def answer_of(word, readings):
    """The answer of readings as they stand."""
    many = sum(times for time, value, times in readings)
    total = sum(value * times for time, value, times in readings)
    values = [value for time, value, times in readings]
    if word in ("many", "sum"):
        return many if word == "many" else total
    if not values:
        return None
    if word in ("least", "greatest"):
        return min(values) if word == "least" else max(values)
    divisor = math.gcd(total, many)
    return (total // divisor, many // divisor)


def is_within(word, one, pair):
    if pair[0] is None:
        return False
    if word == "mean":
        return pair[0][0] * one[1] <= one[0] * pair[0][1] and one[0] * pair[1][1] <= pair[1][0] * one[1]
    return pair[0] <= one <= pair[1]


class ShownCase(unittest.TestCase):
    def check_refused(self, kind, *handed):
        with self.assertRaises(kind) as caught:
            shown(*handed)
        self.assertIs(type(caught.exception), kind)
        return caught.exception

    def check_readings(self, roll, readings):
        """They make the very rows of the roll, and none of them is gone."""
        self.assertIs(type(readings), list)
        for reading in readings:
            self.assertEqual((type(reading), len(reading)), (tuple, 3))
            self.assertEqual([type(number) for number in reading], [int, int, int])
            self.assertGreaterEqual(reading[2], 1)
            self.assertIsNotNone(cell_at(roll.rule(), roll.edges(), reading[0]), reading)
        new = roll_of(roll.rule(), roll.day(), roll.edges(), readings)
        self.assertEqual(whole(new), whole(roll))

    def check_end(self, word, rolls, a, b, high):
        end = asked(word, rolls, a, b)[1 if high else 0]
        if end is None:
            self.check_refused(NoAnswer, word, rolls, a, b, high)
            return
        told = shown(word, rolls, a, b, high)
        self.assertEqual((type(told), len(told)), (list, len(rolls)))
        for roll, readings in zip(rolls, told):
            self.check_readings(roll, readings)
        within = [reading for readings in told for reading in readings if is_in(reading[0], a, b)]
        self.assertEqual(answer_of(word, within), end, (word, a, b, high))

    def check_both_ends(self, rolls, a, b):
        for word in WORDS:
            for high in (False, True):
                self.check_end(word, rolls, a, b, high)


class Shown(ShownCase):
    def test_by_hand(self):
        # The heap (3, 3, -2, 4), whose widest row is -2, 1, 4, is cut at 75.
        part = filled([(75, -2, 1), (71, 1, 1), (72, 4, 1)])
        known = filled([(82, 4, 1), (84, 6, 1)])
        told = shown("sum", [part, known], 75, 90, False)
        self.assertEqual([sorted(readings) for readings in told],
                         [[(70, 1, 1), (70, 4, 1), (75, -2, 1)], [(80, 4, 1), (80, 6, 1)]])
        told = shown("mean", [part, known], 75, 90, True)
        self.assertEqual(sorted(told[0]), [(70, -2, 1), (70, 1, 1), (70, 4, 1)])

    def test_each_stretch_of_one_roll(self):
        roll = filled()
        for a in range(60, 107):
            for b in (None, a - 1, a, a + 1, a + 4, a + 9, a + 10, a + 23):
                self.check_both_ends([roll], a, b)

    def test_without_begin_or_end(self):
        roll = filled(READINGS, EVER)
        for b in [None, -BIG, BIG] + list(range(58, 107)):
            self.check_both_ends([roll], None, b)
            self.check_both_ends([roll], b, None)

    def test_a_stretch_that_cuts_a_heap_at_its_first_and_its_last_time(self):
        roll = filled([(70, -9, 1), (79, 9, 1), (75, 2, 1), (74, 3, 1)])
        for a, b in [(60, 71), (60, 79), (60, 80), (70, 71), (71, 80), (79, 80), (70, 79), (79, None), (60, 70),
                     (80, None), (74, 75), (71, 79)]:
            self.check_both_ends([roll], a, b)

    def test_a_cut_heap_of_one_value_and_of_one_and_two_readings(self):
        for readings in ([(75, 3, 1)], [(75, 3, 4)], [(75, 3, 1), (70, -3, 1)], [(75, 0, 2)], [(79, -5, 7)]):
            for a, b in [(60, 75), (75, None), (73, 77), (71, 79)]:
                self.check_both_ends([filled(readings)], a, b)
                self.check_both_ends([filled(readings), filled([(85, 1, 1)])], a, b)

    def test_the_same_roll_twice(self):
        roll = filled()
        for a, b in [(75, 87), (60, None), (65, 83), (73, 77)]:
            self.check_both_ends([roll, roll], a, b)
            self.check_both_ends([roll, filled([(88, 100, 1)]), roll], a, b)

    def test_rolls_without_readings(self):
        empty = Roll(RULE, DAY)
        self.assertEqual(shown("many", [empty], 60, None, True), [[]])
        self.assertEqual(shown("sum", [empty, empty], 60, None, False), [[], []])
        self.check_both_ends([empty, filled(), empty], 75, 87)

    def test_no_rolls(self):
        for word in ("many", "sum"):
            for high in (False, True):
                self.assertEqual(shown(word, [], None, None, high), [])
                self.assertEqual(shown(word, [], 5, 3, high), [])
        for word in ("least", "greatest", "mean"):
            for high in (False, True):
                self.check_refused(NoAnswer, word, [], None, None, high)

    def test_unlike_edges(self):
        rolls = [filled(), aged(filled(), 115), roll_of(RULE, DAY, [110, 100, 90, 70], READINGS),
                 under(filled(), Rule([(0, 1), (5, 5), (10, 10)], 90)), filled(READINGS, EVER)]
        for a in range(70, 112):
            for b in (None, a + 1, a + 6, a + 17):
                self.check_both_ends(rolls, a, b)

    def test_the_edge_of_gone_falls_to_none_of_the_readings(self):
        roll = filled([(60, 1, 1), (69, 5, 1), (65, 2, 1)])
        for a, b in [(60, None), (61, None), (60, 69), (69, 70)]:
            self.check_both_ends([roll], a, b)

    def test_big_numbers(self):
        rule = Rule([(0, BIG)], 2 * BIG)
        roll = roll_of(rule, 0, [0, -2 * BIG], [(-1, BIG, BIG), (-BIG, -BIG, 2), (-2, 1 - BIG, 3), (BIG, 3, 2),
                                                (-BIG - 1, 5, BIG), (-2 * BIG, -7, 1)])
        for a, b in [(-2 * BIG, None), (-BIG, BIG), (1 - BIG, BIG + 1), (-BIG - 1, -1), (-2 * BIG, -BIG - 1), (-5, -4)]:
            self.check_both_ends([roll], a, b)
            self.check_both_ends([roll, roll], a, b)

    def test_times_below_nought(self):
        roll = roll_of(Rule([(0, 7)]), -3, [0, None], [(-8, 1, 1), (-7, 2, 1), (-1, 3, 1), (-3, -9, 2), (0, 4, 1)])
        for a in [None] + list(range(-16, 3)):
            for b in [None] + list(range(-16, 3)):
                self.check_both_ends([roll], a, b)


class Refusals(ShownCase):
    def test_no_ask(self):
        for word in ("", "all", "Mean", "many "):
            for high in (False, True):
                self.check_refused(NoAsk, word, [filled()], 60, None, high)
                self.check_refused(NoAsk, word, [], None, None, high)

    def test_gone(self):
        rolls = [filled(), aged(filled(), 115), filled(READINGS, EVER)]
        for word in WORDS:
            for high in (False, True):
                for a, b in [(None, None), (69, None), (59, 100), (69, 3)]:
                    self.assertEqual(self.check_refused(Gone, word, rolls, a, b, high).edge, 70)
                shown("many", rolls, 70, None, high)

    def test_no_answer(self):
        for word in ("least", "greatest", "mean"):
            for high in (False, True):
                self.check_refused(NoAnswer, word, [filled()], 106, None, high)
                self.check_refused(NoAnswer, word, [filled()], 80, 80, high)
                self.check_refused(NoAnswer, word, [Roll(RULE, DAY)], 60, None, high)

    def test_no_ask_goes_ahead_of_gone(self):
        self.check_refused(NoAsk, "", [filled()], 59, None, True)
        self.check_refused(NoAsk, "median", [filled()], None, None, False)

    def test_gone_goes_ahead_of_no_answer(self):
        for word in ("least", "greatest", "mean"):
            for a, b in [(59, 59), (None, None), (-5, -5)]:
                self.check_refused(Gone, word, [Roll(RULE, DAY)], a, b, True)
                self.check_refused(Gone, word, [filled()], 59, 59, False)

    def test_what_is_refused_changes_nothing(self):
        roll = filled()
        kept = whole(roll)
        self.check_refused(Gone, "many", [roll], 59, None, True)
        self.check_refused(NoAnswer, "mean", [roll], 80, 80, True)
        self.assertEqual(whole(roll), kept)


class Apart(ShownCase):
    def test_rolls_and_lists_handed_in_stay_as_they_are(self):
        rolls = [filled(), aged(filled(), 110)]
        handed, kept = list(rolls), [whole(roll) for roll in rolls]
        for word in WORDS:
            for high in (False, True):
                shown(word, rolls, 75, 102, high)
        self.assertEqual(rolls, handed)
        self.assertEqual([whole(roll) for roll in rolls], kept)

    def test_lists_told_are_the_asker_s_own(self):
        roll = filled()
        kept = whole(roll)
        for word in WORDS:
            told = shown(word, [roll, roll], 75, 102, True)
            other = list(told[1])
            told[0].clear()
            self.assertEqual(told[1], other)
            told[1].append((100, 100, 100))
            told.clear()
            self.check_end(word, [roll, roll], 75, 102, True)
        self.assertEqual(whole(roll), kept)

    def test_what_is_put_later_changes_nothing_that_was_told(self):
        roll = filled()
        told = shown("sum", [roll], 75, 102, True)
        copy = [list(readings) for readings in told]
        for time in (75, 86, 98, 100):
            roll.put(time, 50, 2)
        self.assertEqual(told, copy)


class Histories(ShownCase):
    """Rolls that came about in many ways: the true answer lies within, and both ends can be shown."""

    def history(self, dice):
        roll, readings = Roll(dice.choice([RULE, EVER, Rule([(0, 2), (3, 6), (9, 18)], 60)]), 0), []
        for deed in range(dice.randrange(1, 6)):
            for number in range(dice.randrange(6)):
                reading = (roll.day() - dice.randrange(-5, 50), dice.randrange(-6, 7), dice.randrange(1, 4))
                roll.put(*reading)
                readings.append(reading)
            choice = dice.randrange(4)
            if choice == 0:
                roll, readings = both(roll, aged(roll, roll.day() + dice.randrange(9))), readings * 2
            elif choice == 1:
                widths = [width for age, width in roll.rule().steps()]
                roll = under(roll, Rule(list(zip([0, 4, 8], widths)), dice.choice([None, 30])))
            else:
                roll = aged(roll, roll.day() + dice.randrange(20))
        return roll, readings

    def test_the_true_answer_lies_within_and_both_ends_can_be_shown(self):
        dice = random.Random(30)
        for case in range(200):
            pairs = [self.history(dice) for roll in range(dice.choice([1, 1, 2, 3]))]
            rolls = [roll for roll, readings in pairs]
            edges = [roll.edges()[-1] for roll in rolls if roll.edges()[-1] is not None]
            for stretch in range(4):
                a = max(edges) + dice.randrange(70) if edges else dice.choice([None, dice.randrange(-50, 80)])
                b = dice.choice([None, (a or 0) + dice.randrange(-3, 40)])
                true = [one for roll, readings in pairs for one in readings if is_in(one[0], a, b)]
                for word in WORDS:
                    pair = asked(word, rolls, a, b)
                    one = answer_of(word, true)
                    # Where no reading lies in the stretch there is no true answer, though parts may tell of one.
                    self.assertTrue(one is None or is_within(word, one, pair), (word, one, pair))
                self.check_both_ends(rolls, a, b)


if __name__ == "__main__":
    unittest.main()
