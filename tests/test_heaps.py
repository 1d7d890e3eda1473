"""Promises 11 and 12: runs and heaps, heaps poured together, and what can be a heap."""

import itertools
import unittest

from thinbook.heaps import can_be, heap_of, poured

BIG = 10 ** 40 + 7

RUN_LISTS = [
    [(5, 1)],
    [(5, 3)],
    [(0, 1), (0, 4)],
    [(-4, 2), (9, 1)],
    [(9, 1), (-4, 2), (9, 3), (1, 1)],
    [(-7, 1), (-7, 1), (-8, 5)],
    [(BIG, 2), (-BIG, 1)],
    [(3, BIG), (4, 1)],
]


def heap_of_row(row):
    return (len(row), sum(row), min(row), max(row))


def heaps_of_small_rows(values, longest):
    """Every heap that a row of these values, of up to so many, makes."""
    return {heap_of_row(row) for many in range(1, longest + 1)
            for row in itertools.combinations_with_replacement(values, many)}


class HeapOf(unittest.TestCase):
    def test_ordinary_runs(self):
        for runs, heap in [
            ([(5, 1)], (1, 5, 5, 5)),
            ([(3, 4)], (4, 12, 3, 3)),
            ([(2, 1), (7, 1)], (2, 9, 2, 7)),
            ([(7, 1), (2, 1)], (2, 9, 2, 7)),
            ([(1, 2), (2, 1), (8, 2)], (5, 20, 1, 8)),
            ([(-3, 2), (-9, 1)], (3, -15, -9, -3)),
            ([(-2, 1), (1, 1), (4, 1)], (3, 3, -2, 4)),
            ([(0, 6)], (6, 0, 0, 0)),
        ]:
            with self.subTest(runs=runs):
                self.assertEqual(heap_of(runs), heap)
                self.assertIs(type(heap_of(runs)), tuple)

    def test_no_runs_have_no_heap(self):
        self.assertIsNone(heap_of([]))

    def test_runs_of_one_value_count_together(self):
        self.assertEqual(heap_of([(4, 1), (4, 2), (1, 1), (4, 3)]), heap_of([(1, 1), (4, 6)]))

    def test_numbers_of_forty_figures(self):
        self.assertEqual(heap_of([(BIG, BIG), (-BIG, 1)]), (BIG + 1, BIG * BIG - BIG, -BIG, BIG))

    def test_the_readings_one_by_one(self):
        for many in range(1, 5):
            for row in itertools.product((-2, 0, 3), repeat=many):
                self.assertEqual(heap_of([(value, 1) for value in row]), heap_of_row(row))
                self.assertEqual(heap_of([(value, 3) for value in row]), heap_of_row(row * 3))

    def test_the_list_handed_in_stays(self):
        for runs in RUN_LISTS:
            handed = list(runs)
            heap_of(handed)
            self.assertEqual(handed, runs)


class Poured(unittest.TestCase):
    def test_ordinary_heaps(self):
        self.assertEqual(poured((1, 5, 5, 5), (1, 5, 5, 5)), (2, 10, 5, 5))
        self.assertEqual(poured((2, 9, 2, 7), (3, 3, -2, 4)), (5, 12, -2, 7))
        self.assertEqual(poured((3, 3, -2, 4), (2, 9, 2, 7)), (5, 12, -2, 7))
        self.assertEqual(poured((3, -15, -9, -3), (1, -5, -5, -5)), (4, -20, -9, -3))
        self.assertIs(type(poured((1, 5, 5, 5), (2, 9, 2, 7))), tuple)

    def test_the_heap_of_the_readings_of_both(self):
        for one, other in itertools.product(RUN_LISTS, repeat=2):
            self.assertEqual(poured(heap_of(one), heap_of(other)), heap_of(one + other))

    def test_the_order_of_three_is_free(self):
        for one, other, third in itertools.product([heap_of(runs) for runs in RUN_LISTS], repeat=3):
            self.assertEqual(poured(poured(one, other), third), poured(one, poured(other, third)))


class CanBe(unittest.TestCase):
    def test_just_what_readings_make(self):
        # Values outside of -2 to 3 make no heap with a least and a greatest one within.
        made = heaps_of_small_rows(range(-2, 4), 4)
        for many in range(-1, 5):
            for least, greatest in itertools.product(range(-2, 4), repeat=2):
                for total in range(-14, 15):
                    thing = (many, total, least, greatest)
                    self.assertIs(can_be(thing), thing in made, thing)

    def test_the_ends_of_the_total(self):
        for many, least, greatest in [(2, 2, 7), (3, -5, 4), (9, -8, -2), (BIG, -BIG, BIG), (5, BIG, BIG + 1)]:
            low = (many - 1) * least + greatest
            high = least + (many - 1) * greatest
            for total, told in [(low - 1, False), (low, True), (high, True), (high + 1, False)]:
                with self.subTest(many=many, total=total):
                    self.assertIs(can_be((many, total, least, greatest)), told)

    def test_heaps_of_one_and_of_none(self):
        for thing, told in [
            ((1, 5, 5, 5), True), ((1, BIG, BIG, BIG), True), ((1, -1, -1, -1), True), ((1, 0, 0, 0), True),
            ((1, 6, 5, 5), False), ((1, 5, 4, 5), False), ((1, 5, 5, 6), False), ((1, 5, 4, 6), False),
            ((1, 5, 6, 4), False), ((0, 0, 0, 0), False), ((0, 5, 5, 5), False), ((-1, -5, 5, 5), False),
            ((-BIG, 0, 0, 0), False), ((2, 9, 7, 2), False), ((3, 15, 6, 4), False),
        ]:
            with self.subTest(thing=thing):
                self.assertIs(can_be(thing), told)

    def test_things_of_other_kinds_can_not(self):
        for thing in [
            None, 0, 5, "1555", "", [], [1, 5, 5, 5], {}, (), (1, 5, 5), (1, 5, 5, 5, 5), ((1, 5, 5, 5),),
            (True, 5, 5, 5), (1, True, True, True), (1, 1, 1, True), (2, 0, False, 0), (1, "5", "5", "5"),
            (None, 5, 5, 5), (1, None, None, None), (1.0, 5, 5, 5), (2, 9.0, 2, 7), (1, (5,), (5,), (5,)),
        ]:
            with self.subTest(thing=thing):
                self.assertIs(can_be(thing), False)

    def test_heaps_told_can_be(self):
        for one, other in itertools.product(RUN_LISTS, repeat=2):
            self.assertIs(can_be(heap_of(one)), True)
            self.assertIs(can_be(poured(heap_of(one), heap_of(other))), True)


if __name__ == "__main__":
    unittest.main()
