"""Promises 2 to 4 and 10: rules, what is refused with NoRule, and the room."""

import itertools
import unittest

from thinbook.edges import cell_at, edges_at
from thinbook.errors import NoRule
from thinbook.rules import Rule
from thinbook.whole import floored, is_whole

BIG = 10 ** 59

GOOD = [
    ([(0, 1)], None),
    ([(0, 1)], 0),
    ([(7, 10)], 7),
    ([(0, 1), (60, 60)], 600),
    ([(3, 2), (3, 2), (3, 2)], 3),
    ([(0, 5), (9, 5), (9, 10), (20, 30)], None),
    ([(0, 1), (10, 2), (20, 4), (30, 8), (40, 16)], 41),
    ([(BIG, BIG), (BIG, 3 * BIG)], 9 * BIG),
]

BAD = {
    "no steps": ([], None),
    "no steps, gone told": ([], 5),
    "six steps": ([(age, 1) for age in range(6)], None),
    "sixty steps": ([(age, 1) for age in range(60)], 60),
    "a first age below 0": ([(-1, 1)], None),
    "a first age far below 0": ([(-BIG, 1), (0, 1)], 5),
    "an age less than the one ahead": ([(5, 1), (4, 1)], None),
    "the last age less than the one ahead": ([(0, 1), (5, 1), (4, 1)], 9),
    "a width of 0": ([(0, 0)], None),
    "a later width of 0": ([(0, 1), (1, 0)], None),
    "a width ahead of 0": ([(0, 0), (1, 0)], None),
    "a width below 0": ([(0, -2)], None),
    "widths below 0": ([(0, -2), (0, -4)], None),
    "a width below 0 that is divided": ([(0, 2), (0, -4)], None),
    "a width that does not divide the next one": ([(0, 2), (1, 3)], None),
    "a width greater than the next one": ([(0, 4), (1, 2)], None),
    "the last width is not divided": ([(0, 1), (1, 4), (2, 6)], None),
    "one big width off by 1": ([(0, BIG), (0, 2 * BIG + 1)], None),
    "gone less than the last age": ([(0, 1), (60, 60)], 59),
    "gone less than the one age": ([(7, 10)], 6),
    "gone below 0": ([(0, 1)], -1),
}

KINDS = {
    "a truth as an age": ([(True, 1)], None),
    "a truth as a width": ([(0, True)], None),
    "a truth as gone": ([(0, 1)], True),
    "a step of one number": ([(0,)], None),
    "a step of three numbers": ([(0, 1, 2)], None),
}

WIDTHS = [(1,), (3,), (1, 1), (1, 3), (2, 4), (3, 6), (1, 2, 6), (2, 2, 4), (1, 3, 6)]


def small_rules():
    """Rules of up to three steps, with gone."""
    for widths in WIDTHS:
        for ages in itertools.combinations_with_replacement((0, 1, 2, 4, 5), len(widths)):
            for more in (0, 1, 2, 5, 7):
                yield Rule(list(zip(ages, widths)), ages[-1] + more)


def cells_on(rule, day):
    """The cells that are not young and have a time, counted time by time."""
    edges = edges_at(rule, day)
    cells = set()
    for time in range(edges[-1], edges[0]):
        cell = cell_at(rule, edges, time)
        if cell is not None and cell[1] > 0:
            cells.add(cell)
    return len(cells)


class Whole(unittest.TestCase):
    def test_a_whole_number_is_an_int_that_is_no_truth(self):
        for thing in (0, -1, 7, BIG, -BIG):
            self.assertIs(is_whole(thing), True)
        for thing in (True, False, None, "1", 1.0, (1,), [1]):
            self.assertIs(is_whole(thing), False)

    def test_the_greatest_multiple_no_greater(self):
        for number, width, told in [(93, 10, 90), (90, 10, 90), (-8, 10, -10), (-10, 10, -10), (-1, 1, -1), (0, 9, 0)]:
            self.assertEqual(floored(number, width), told)


class Made(unittest.TestCase):
    def test_a_rule_tells_its_steps_and_gone(self):
        for steps, gone in GOOD:
            with self.subTest(steps=steps, gone=gone):
                rule = Rule(steps, gone)
                self.assertEqual(rule.steps(), steps)
                self.assertEqual(rule.gone(), gone)

    def test_the_kinds_told(self):
        rule = Rule([(0, 1), (60, 60)], 600)
        self.assertIs(type(rule.steps()), list)
        for step in rule.steps():
            self.assertIs(type(step), tuple)
        self.assertIs(type(rule.gone()), int)
        self.assertIs(type(rule.room()), int)

    def test_gone_left_out_is_none(self):
        self.assertIsNone(Rule([(0, 1)]).gone())

    def test_the_arguments_have_their_names(self):
        rule = Rule(steps=[(1, 2)], gone=3)
        self.assertEqual((rule.steps(), rule.gone()), ([(1, 2)], 3))

    def test_the_list_handed_in_stays(self):
        for steps, gone in GOOD:
            handed = list(steps)
            rule = Rule(handed, gone)
            rule.steps()
            rule.room()
            self.assertEqual(handed, steps)

    def test_what_is_done_to_the_list_behind_changes_nothing(self):
        handed = [(0, 1), (60, 60)]
        rule = Rule(handed, 600)
        handed.append((90, 120))
        handed[0] = (5, 5)
        self.assertEqual(rule.steps(), [(0, 1), (60, 60)])
        self.assertEqual(rule.room(), 128)

    def test_a_list_told_is_the_askers_own(self):
        rule = Rule([(0, 1), (60, 60)], 600)
        told = rule.steps()
        told.append((90, 120))
        told[0] = (5, 5)
        self.assertEqual(rule.steps(), [(0, 1), (60, 60)])
        self.assertEqual(rule.room(), 128)
        self.assertEqual(edges_at(rule, 0), [0, -60, -600])


class Refused(unittest.TestCase):
    def test_what_does_not_fit_is_no_rule(self):
        for why, (steps, gone) in BAD.items():
            with self.subTest(why):
                handed = list(steps)
                with self.assertRaises(NoRule) as caught:
                    Rule(handed, gone)
                self.assertIs(type(caught.exception), NoRule)
                self.assertEqual(handed, steps)

    def test_what_is_no_whole_number_makes_no_rule(self):
        for why, (steps, gone) in KINDS.items():
            with self.subTest(why):
                self.assertRaises(NoRule, Rule, steps, gone)


class Room(unittest.TestCase):
    def test_the_room_by_the_words(self):
        for steps, gone, room in [
            ([(0, 1)], 0, 0),
            ([(0, 1)], 9, 9),
            ([(7, 10)], 7, 0),
            ([(7, 10)], 8, 1),
            ([(7, 10)], 17, 1),
            ([(7, 10)], 18, 2),
            ([(0, 1), (60, 60)], 600, 119 + 9),
            ([(0, 1), (60, 60)], 601, 119 + 10),
            ([(1, 2), (4, 6), (4, 12)], 30, 4 + 1 + 3),
            ([(0, BIG), (BIG, 2 * BIG)], 9 * BIG, 2 + 4),
        ]:
            with self.subTest(steps=steps, gone=gone):
                self.assertEqual(Rule(steps, gone).room(), room)

    def test_no_room_is_told_without_gone(self):
        for steps, gone in GOOD:
            if gone is None:
                self.assertIsNone(Rule(steps, gone).room())

    def test_never_fewer_than_the_cells_on_a_day(self):
        for rule in small_rules():
            # The last width is a multiple of the others: behind it the cells repeat.
            period = rule.steps()[-1][1]
            for day in range(-period, period + 1):
                self.assertLessEqual(cells_on(rule, day), rule.room(), (rule.steps(), rule.gone(), day))

    def test_the_room_is_reached_where_one_step_has_all(self):
        for width in (1, 2, 5):
            for age in (0, 3):
                for gone in range(age, age + 12):
                    rule = Rule([(age, width)], gone)
                    counted = [cells_on(rule, day) for day in range(width)]
                    self.assertEqual(max(counted), rule.room(), (age, width, gone))


if __name__ == "__main__":
    unittest.main()
