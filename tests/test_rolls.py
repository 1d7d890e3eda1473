"""Promises 15 to 18: rolls, what is put into them, and what they tell."""

import itertools
import random
import unittest

from thinbook.ages import roll_of
from thinbook.edges import edges_at
from thinbook.errors import NoNumber
from thinbook.rolls import Roll
from thinbook.rules import Rule

BIG = 10 ** 40 + 7

STEPS = [(5, 1), (10, 5), (20, 10)]
# The edges of this rule on the day 103 are 98, 90, 80 and, of gone, 60.
RULE = Rule(STEPS, 40)
DAY = 103


def plain_rows(rule, edges, readings):
    """Young ones and heaps by the document's words, of the values one by one."""
    young, cells = {}, {}
    for time, value, many in readings:
        if time >= edges[0]:
            young[(time, value)] = young.get((time, value), 0) + many
        elif edges[-1] is None or time >= edges[-1]:
            width = [step[1] for step, edge in zip(rule.steps(), edges) if edge > time][-1]
            cells.setdefault((time - time % width, width), []).extend([value] * many)
    return ([(time, value, many) for (time, value), many in sorted(young.items())],
            [(start, width, len(row), sum(row), min(row), max(row)) for (start, width), row in sorted(cells.items())])


def rows(roll):
    return (roll.young(), roll.heaps())


def filled(readings, rule=RULE, day=DAY):
    roll = Roll(rule, day)
    for time, value, many in readings:
        roll.put(time, value, many)
    return roll


class Made(unittest.TestCase):
    def test_without_readings(self):
        roll = Roll(RULE, DAY)
        self.assertEqual((roll.rule().steps(), roll.rule().gone()), (STEPS, 40))
        self.assertEqual(roll.day(), DAY)
        self.assertEqual(roll.edges(), [98, 90, 80, 60])
        self.assertEqual(rows(roll), ([], []))

    def test_edges_are_the_rule_s_on_that_day(self):
        for rule in (RULE, Rule(STEPS), Rule([(0, 7)], 0), Rule([(BIG, BIG)], 3 * BIG)):
            for day in (0, -1, 100, -BIG, BIG):
                roll = Roll(rule, day)
                self.assertEqual((roll.day(), roll.edges()), (day, edges_at(rule, day)))
                self.assertIsInstance(roll.rule(), Rule)

    def test_the_arguments_have_their_names(self):
        roll = Roll(rule=RULE, day=DAY)
        self.assertIs(roll.put(time=100, value=7, many=2), True)
        self.assertIs(roll.put(value=7, time=100), True)
        self.assertEqual(roll.young(), [(100, 7, 3)])


class Put(unittest.TestCase):
    def test_at_ahead_of_and_behind_each_edge(self):
        for time, young, heaps in [
            (99, [(99, 7, 1)], []), (98, [(98, 7, 1)], []), (97, [], [(97, 1, 1, 7, 7, 7)]),
            (91, [], [(91, 1, 1, 7, 7, 7)]), (90, [], [(90, 1, 1, 7, 7, 7)]), (89, [], [(85, 5, 1, 7, 7, 7)]),
            (81, [], [(80, 5, 1, 7, 7, 7)]), (80, [], [(80, 5, 1, 7, 7, 7)]), (79, [], [(70, 10, 1, 7, 7, 7)]),
            (61, [], [(60, 10, 1, 7, 7, 7)]), (60, [], [(60, 10, 1, 7, 7, 7)]),
        ]:
            with self.subTest(time=time):
                roll = Roll(RULE, DAY)
                self.assertIs(roll.put(time, 7), True)
                self.assertEqual(rows(roll), (young, heaps))

    def test_what_is_gone_is_let_go(self):
        roll = filled([(100, 1, 1), (85, 2, 2), (60, 3, 1)])
        ahead = rows(roll)
        for time in (59, 58, 0, -1, -BIG):
            self.assertIs(roll.put(time, 7), False)
            self.assertIs(roll.put(time, 7, BIG), False)
            self.assertEqual(rows(roll), ahead)
        self.assertEqual((roll.day(), roll.edges()), (DAY, [98, 90, 80, 60]))

    def test_nothing_is_gone_without_gone(self):
        roll = Roll(Rule(STEPS), DAY)
        self.assertIs(roll.put(-BIG, 7), True)
        self.assertEqual(rows(roll), ([], [(-BIG - (-BIG) % 10, 10, 1, 7, 7, 7)]))

    def test_behind_the_day_it_is_young(self):
        roll = Roll(RULE, DAY)
        for time in (DAY, DAY + 1, DAY + BIG):
            self.assertIs(roll.put(time, -7), True)
        self.assertEqual(rows(roll), ([(DAY, -7, 1), (DAY + 1, -7, 1), (DAY + BIG, -7, 1)], []))

    def test_behind_the_day_and_below_the_first_edge_it_is_poured(self):
        roll = roll_of(RULE, 0, [98, 90, 80, 60], [])
        self.assertEqual((roll.day(), roll.edges()), (0, [98, 90, 80, 60]))
        self.assertEqual([roll.put(time, 7) for time in (98, 97, 60, 59)], [True, True, True, False])
        self.assertEqual(rows(roll), ([(98, 7, 1)], [(60, 10, 1, 7, 7, 7), (97, 1, 1, 7, 7, 7)]))

    def test_readings_of_one_cell_are_poured_together(self):
        roll = Roll(RULE, DAY)
        for time, value, many, heap in [
            (85, 4, 1, (1, 4, 4, 4)), (89, 6, 1, (2, 10, 4, 6)), (87, -2, 3, (5, 4, -2, 6)), (85, 4, 2, (7, 12, -2, 6)),
        ]:
            self.assertIs(roll.put(time, value, many), True)
            self.assertEqual(rows(roll), ([], [(85, 5) + heap]))

    def test_many_left_out_is_1(self):
        roll = Roll(RULE, DAY)
        roll.put(100, 7)
        roll.put(85, 7)
        self.assertEqual(rows(roll), ([(100, 7, 1)], [(85, 5, 1, 7, 7, 7)]))

    def test_many_below_1_is_no_number_ahead_of_all_else(self):
        roll = filled([(100, 1, 1), (85, 2, 2)])
        ahead = rows(roll)
        for many in (0, -1, -BIG):
            # A young time, new and known; one of a heap; one that is gone.
            for time in (101, 100, 85, 60, 59, -BIG):
                with self.subTest(time=time, many=many):
                    with self.assertRaises(NoNumber) as caught:
                        roll.put(time, 1, many)
                    self.assertIs(type(caught.exception), NoNumber)
                    self.assertEqual(rows(roll), ahead)

    def test_days_and_times_below_nought(self):
        roll = Roll(Rule([(0, 2), (3, 4)], 5), -3)
        self.assertEqual(roll.edges(), [-4, -8, -8])
        self.assertEqual([roll.put(time, time) for time in (0, -3, -4, -5, -7, -8, -9)], [True] * 6 + [False])
        self.assertEqual(roll.young(), [(-4, -4, 1), (-3, -3, 1), (0, 0, 1)])
        self.assertEqual(roll.heaps(), [(-8, 2, 2, -15, -8, -7), (-6, 2, 1, -5, -5, -5)])

    def test_numbers_of_forty_figures(self):
        roll = Roll(Rule([(0, 1), (BIG, BIG)], 5 * BIG), 9 * BIG)
        self.assertEqual(roll.edges(), [9 * BIG, 8 * BIG, 4 * BIG])
        for time, value, many in [
            (9 * BIG, -BIG, BIG), (9 * BIG, -BIG, 1), (8 * BIG - 1, BIG, BIG), (7 * BIG, -BIG, 1),
        ]:
            self.assertIs(roll.put(time, value, many), True)
        self.assertIs(roll.put(4 * BIG - 1, 0), False)
        self.assertEqual(rows(roll), (
            [(9 * BIG, -BIG, BIG + 1)], [(7 * BIG, BIG, BIG + 1, BIG * BIG - BIG, -BIG, BIG)]))


class Told(unittest.TestCase):
    def test_young_ones_are_sorted_and_put_together(self):
        roll = filled([(101, 5, 1), (99, 9, 1), (101, -5, 2), (98, 0, 1), (101, 5, 3), (99, -9, 1), (1000, 1, 1)])
        self.assertEqual(roll.young(), [
            (98, 0, 1), (99, -9, 1), (99, 9, 1), (101, -5, 2), (101, 5, 4), (1000, 1, 1)])

    def test_heaps_are_sorted_by_start(self):
        roll = filled([(95, 1, 1), (60, 2, 1), (89, 3, 1), (71, 4, 1), (80, 5, 1), (69, 6, 1)])
        self.assertEqual(roll.heaps(), [
            (60, 10, 2, 8, 2, 6), (70, 10, 1, 4, 4, 4), (80, 5, 1, 5, 5, 5), (85, 5, 1, 3, 3, 3), (95, 1, 1, 1, 1, 1)])

    def test_the_kinds_told(self):
        roll = filled([(100, 1, 1), (85, 2, 2)])
        self.assertEqual([type(told) for told in (roll.edges(), roll.young(), roll.heaps())], [list] * 3)
        self.assertEqual({type(row) for row in roll.young() + roll.heaps()}, {tuple})

    def test_lists_told_are_the_askers_own(self):
        roll = filled([(100, 1, 1), (101, 1, 1), (85, 2, 2), (60, 3, 1)])
        ahead = (roll.rule().steps(), roll.edges(), roll.young(), roll.heaps())
        for tell in (roll.rule().steps, roll.edges, roll.young, roll.heaps):
            told = tell()
            told[0] = None
            told.append((0, 0, 0))
        self.assertEqual((roll.rule().steps(), roll.edges(), roll.young(), roll.heaps()), ahead)
        roll.put(97, 5)
        self.assertEqual(roll.heaps(), ahead[3] + [(97, 1, 1, 5, 5, 5)])

    def test_what_was_told_stays_when_more_is_put(self):
        roll = filled([(100, 1, 1), (85, 2, 2)])
        young, heaps = rows(roll)
        for time in (100, 99, 85, 60):
            roll.put(time, 1)
        self.assertEqual((young, heaps), ([(100, 1, 1)], [(85, 5, 2, 4, 2, 2)]))

    def test_the_list_of_the_rule_may_change(self):
        steps = list(STEPS)
        roll = Roll(Rule(steps, 40), DAY)
        steps[0] = (0, 1)
        steps.append((50, 20))
        roll.put(97, 5)
        self.assertEqual((roll.rule().steps(), roll.edges()), (STEPS, [98, 90, 80, 60]))
        self.assertEqual(roll.heaps(), [(97, 1, 1, 5, 5, 5)])

    def test_rolls_of_one_rule_stay_apart(self):
        one, other = Roll(RULE, DAY), Roll(RULE, DAY)
        one.put(100, 1)
        one.put(85, 1)
        self.assertEqual(rows(other), ([], []))

    def test_asking_changes_nothing(self):
        roll = filled([(100, 1, 1), (85, 2, 2)])
        self.assertEqual(rows(roll), rows(roll))
        self.assertEqual((roll.day(), roll.edges()), (DAY, [98, 90, 80, 60]))


class AnyOrder(unittest.TestCase):
    def test_the_order_is_free(self):
        readings = [(100, 1, 1), (100, 1, 2), (86, 5, 1), (85, -5, 2), (60, 0, 1), (59, 9, 9)]
        told = {str(rows(filled(order))) for order in itertools.permutations(readings)}
        self.assertEqual(len(told), 1)
        self.assertEqual(rows(filled(readings)), plain_rows(RULE, [98, 90, 80, 60], readings))

    def test_one_by_one_or_together(self):
        for time in (100, 97, 85, 60, 59):
            together = filled([(time, 3, 4), (time, 5, 2)])
            single = filled([(time, 3, 1), (time, 5, 1), (time, 3, 1), (time, 3, 1), (time, 5, 1), (time, 3, 1)])
            self.assertEqual(rows(together), rows(single))

    def test_by_the_words_for_many_readings(self):
        chance = random.Random(16)
        for gone in (None, 20, 33, 40):
            rule = Rule(STEPS, gone)
            for day in (-7, 0, 3, 103):
                readings = [(day - chance.randint(-5, 60), chance.randint(-9, 9), chance.randint(1, 3))
                            for count in range(120)]
                self.assertEqual(rows(filled(readings, rule, day)), plain_rows(rule, edges_at(rule, day), readings))


if __name__ == "__main__":
    unittest.main()
