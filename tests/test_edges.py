"""Promises 5 to 9: cuts and edges, the greater ones, and cells."""

import itertools
import unittest

from thinbook.edges import cell_at, edges_at, greater
from thinbook.errors import NoRule
from thinbook.rules import Rule

BIG = 10 ** 59

WIDTHS = [(1,), (3,), (1, 1), (1, 3), (2, 4), (3, 6), (1, 2, 6), (2, 2, 4)]


def rules_of(widths):
    """Small rules with these widths, with gone and without it."""
    for ages in itertools.combinations_with_replacement((0, 1, 4), len(widths)):
        for more in (None, 0, 3, 7):
            yield Rule(list(zip(ages, widths)), None if more is None else ages[-1] + more)


def plain_cell(rule, edges, time):
    """The cell by the document's words, looked for one by one."""
    if time >= edges[0]:
        return (time, 0)
    if edges[-1] is not None and time < edges[-1]:
        return None
    widths = [width for (age, width), edge in zip(rule.steps(), edges[:-1]) if edge > time]
    start = time
    while start % widths[-1] != 0:
        start -= 1
    return (start, widths[-1])


class Edges(unittest.TestCase):
    def test_the_document_s_own_cuts(self):
        self.assertEqual(edges_at(Rule([(7, 10)]), 100), [90, None])
        self.assertEqual(edges_at(Rule([(7, 10)]), -1), [-10, None])

    def test_cuts_at_a_multiple_and_beside_it(self):
        for day, cut in [(96, 80), (97, 90), (98, 90), (106, 90), (107, 100)]:
            self.assertEqual(edges_at(Rule([(7, 10)]), day), [cut, None])

    def test_the_cuts_in_the_order_of_the_steps_and_gone_behind(self):
        rule = Rule([(0, 1), (60, 60), (100, 120)], 600)
        self.assertEqual(edges_at(rule, 1000), [1000, 900, 840, 360])
        self.assertEqual(edges_at(rule, 0), [0, -60, -120, -600])

    def test_gone_is_cut_by_the_last_width(self):
        self.assertEqual(edges_at(Rule([(0, 1), (5, 10)], 17), 100), [100, 90, 80])
        self.assertEqual(edges_at(Rule([(0, 10)], 0), 19), [10, 10])

    def test_days_below_nought(self):
        rule = Rule([(0, 2), (3, 4)], 5)
        for day, edges in [(0, [0, -4, -8]), (-1, [-2, -4, -8]), (-3, [-4, -8, -8]), (-4, [-4, -8, -12])]:
            self.assertEqual(edges_at(rule, day), edges)

    def test_numbers_of_sixty_figures(self):
        day = 10 ** 60 - 1
        rule = Rule([(BIG, 10), (BIG + 1, 10 ** 30)], 2 * BIG)
        self.assertEqual(edges_at(rule, day), [9 * BIG - 10, 9 * BIG - 10 ** 30, 8 * BIG - 10 ** 30])
        self.assertEqual(edges_at(rule, -day), [-11 * BIG, -11 * BIG, -12 * BIG])

    def test_each_cut_is_the_greatest_multiple(self):
        for widths in WIDTHS:
            for rule in rules_of(widths):
                for day in range(-9, 10):
                    edges = edges_at(rule, day)
                    ends = rule.steps() + [(rule.gone(), widths[-1])]
                    self.assertEqual(len(edges), len(ends))
                    for (age, width), edge in zip(ends, edges):
                        if age is None:
                            self.assertIsNone(edge)
                        else:
                            multiples = [n for n in range(-40, 40) if n % width == 0 and n <= day - age]
                            self.assertEqual(edge, max(multiples))

    def test_a_list_told_is_the_askers_own(self):
        rule = Rule([(0, 1), (60, 60)], 600)
        told = edges_at(rule, 1000)
        told[0] = 7
        told.append(None)
        self.assertEqual(edges_at(rule, 1000), [1000, 900, 360])


class Greater(unittest.TestCase):
    def test_place_by_place(self):
        for one, other, told in [
            ([5, 3, 1], [4, 4, 0], [5, 4, 1]),
            ([-5, -9], [-6, -3], [-5, -3]),
            ([5, None], [4, None], [5, None]),
            ([5, None], [6, -100], [6, -100]),
            ([0, -BIG], [0, None], [0, -BIG]),
            ([0, 0], [0, None], [0, 0]),
            ([None, None, 2], [None, 1, None], [None, 1, 2]),
            ([BIG, 1], [BIG + 1, 1], [BIG + 1, 1]),
            ([], [], []),
        ]:
            with self.subTest(one=one, other=other):
                self.assertEqual(greater(one, other), told)
                self.assertEqual(greater(other, one), told)

    def test_lists_of_unlike_length_are_no_rule(self):
        for one, other in [([], [1]), ([1], [1, None]), ([3, 2, 1], [3, 2]), ([None], []), (["a"], [None, "b"])]:
            with self.subTest(one=one, other=other):
                for left, right in [(one, other), (other, one)]:
                    with self.assertRaises(NoRule) as caught:
                        greater(left, right)
                    self.assertIs(type(caught.exception), NoRule)

    def test_the_lists_handed_in_stay_and_the_one_told_is_new(self):
        one, other = [5, 3, None], [4, 4, 0]
        told = greater(one, other)
        told[0] = 99
        self.assertEqual((one, other), ([5, 3, None], [4, 4, 0]))
        self.assertEqual(greater(one, other), [5, 4, 0])
        same = greater(one, one)
        same.append(1)
        self.assertEqual(one, [5, 3, None])


class Cells(unittest.TestCase):
    def test_at_ahead_of_and_behind_each_edge(self):
        rule = Rule([(0, 1), (10, 5), (20, 10)], 40)
        edges = [100, 90, 80, 60]
        for time, cell in [
            (1000, (1000, 0)), (101, (101, 0)), (100, (100, 0)), (99, (99, 1)),
            (91, (91, 1)), (90, (90, 1)), (89, (85, 5)), (85, (85, 5)), (84, (80, 5)),
            (81, (80, 5)), (80, (80, 5)), (79, (70, 10)), (70, (70, 10)), (69, (60, 10)),
            (61, (60, 10)), (60, (60, 10)), (59, None), (-1000, None),
        ]:
            with self.subTest(time=time):
                self.assertEqual(cell_at(rule, edges, time), cell)

    def test_below_nought_and_without_gone(self):
        rule = Rule([(0, 2), (3, 4)])
        edges = [-2, -4, None]
        for time, cell in [
            (0, (0, 0)), (-1, (-1, 0)), (-2, (-2, 0)), (-3, (-4, 2)), (-4, (-4, 2)),
            (-5, (-8, 4)), (-8, (-8, 4)), (-9, (-12, 4)), (-BIG - 1, (-BIG - 4, 4)),
        ]:
            with self.subTest(time=time):
                self.assertEqual(cell_at(rule, edges, time), cell)

    def test_edges_alike(self):
        rule = Rule([(0, 1), (0, 1), (0, 5)], 0)
        self.assertEqual(cell_at(rule, [10, 10, 10, 10], 10), (10, 0))
        self.assertIsNone(cell_at(rule, [10, 10, 10, 10], 9))
        self.assertEqual(cell_at(rule, [10, 10, 10, 5], 9), (5, 5))
        self.assertEqual(cell_at(rule, [10, 10, 10, None], 9), (5, 5))
        self.assertEqual(cell_at(rule, [12, 10, 10, 10], 11), (11, 1))
        self.assertEqual(cell_at(rule, [12, 12, 10, 10], 11), (11, 1))

    def test_gone_goes_by_the_edges_not_by_the_rule(self):
        # Edges may come from other rules with the same widths, with gone or without it.
        self.assertIsNone(cell_at(Rule([(0, 10)]), [100, 50], 49))
        self.assertEqual(cell_at(Rule([(0, 10)]), [100, 50], 50), (50, 10))
        self.assertEqual(cell_at(Rule([(0, 10)], 0), [100, None], -1), (-10, 10))

    def test_numbers_of_sixty_figures(self):
        rule = Rule([(0, 1), (BIG, BIG)], 5 * BIG)
        edges = edges_at(rule, 9 * BIG + 5)
        self.assertEqual(cell_at(rule, edges, 9 * BIG + 5), (9 * BIG + 5, 0))
        self.assertEqual(cell_at(rule, edges, 8 * BIG), (8 * BIG, 1))
        self.assertEqual(cell_at(rule, edges, 8 * BIG - 1), (7 * BIG, BIG))
        self.assertEqual(cell_at(rule, edges, 4 * BIG), (4 * BIG, BIG))
        self.assertIsNone(cell_at(rule, edges, 4 * BIG - 1))

    def test_the_cell_by_the_words_for_small_rules(self):
        for widths in WIDTHS:
            for rule in rules_of(widths):
                for day in range(-7, 8):
                    edges = edges_at(rule, day)
                    for time in range(day - 20, day + 3):
                        self.assertEqual(cell_at(rule, edges, time), plain_cell(rule, edges, time))

    def test_what_is_handed_in_stays(self):
        rule, edges = Rule([(0, 1), (10, 5)], 40), [100, 90, 60]
        for time in (100, 99, 89, 59):
            cell_at(rule, edges, time)
        self.assertEqual(edges, [100, 90, 60])
        self.assertEqual((rule.steps(), rule.gone()), ([(0, 1), (10, 5)], 40))

    def test_the_kinds_told(self):
        rule = Rule([(0, 1), (10, 5)], 40)
        for time in (100, 99, 89):
            self.assertIs(type(cell_at(rule, [100, 90, 60], time)), tuple)


class StaysWhole(unittest.TestCase):
    """Promise 9: cells stay whole by later edges."""

    def check_cell(self, rule, edges, later, cell):
        start, width = cell
        times = range(start, start + width)
        self.assertEqual({cell_at(rule, edges, time) for time in times}, {cell})
        behind = {cell_at(rule, later, time) for time in times}
        self.assertEqual(len(behind), 1)
        held = behind.pop()
        if held is not None:
            self.assertGreater(held[1], 0)
            self.assertLessEqual(held[0], start)
            self.assertGreaterEqual(held[0] + held[1], start + width)

    def check_all(self, rule, edges, later):
        for time in range(-16, 8):
            cell = cell_at(rule, edges, time)
            if cell is None:
                self.assertIsNone(cell_at(rule, later, time))
            elif cell[1] > 0:
                self.check_cell(rule, edges, later, cell)

    def test_by_the_rule_s_edges_on_later_days(self):
        for widths in WIDTHS:
            for rule in rules_of(widths):
                for day in range(-3, 4):
                    for more in (0, 1, 2, 5):
                        self.check_all(rule, edges_at(rule, day), edges_at(rule, day + more))

    def test_by_the_greater_ones_with_another_rule_s_edges(self):
        for widths in [(3,), (1, 3), (1, 2, 6)]:
            for rule, other in itertools.product(list(rules_of(widths)), repeat=2):
                edges = edges_at(rule, 4)
                for day in (2, 4, 5):
                    self.check_all(rule, edges, greater(edges, edges_at(other, day)))


if __name__ == "__main__":
    unittest.main()
