"""Promises 13 and 14: the widest row of a heap, and the most and the least of k readings."""

import itertools
import unittest

from thinbook.errors import NoNumber
from thinbook.heaps import can_be, heap_of, poured
from thinbook.widest import least_of, most_of, widest

BIG = 10 ** 40 + 7

DOCUMENTS = [
    ((1, 5, 5, 5), [(5, 1)]),
    ((4, 12, 3, 3), [(3, 4)]),
    ((2, 9, 2, 7), [(2, 1), (7, 1)]),
    ((5, 20, 1, 8), [(1, 2), (2, 1), (8, 2)]),
    ((5, 19, 1, 8), [(1, 3), (8, 2)]),
]


def small_rows():
    """For each small heap all sorted rows of values that make it."""
    rows = {}
    for many in range(1, 6):
        for row in itertools.combinations_with_replacement(range(-3, 4), many):
            rows.setdefault((many, sum(row), row[0], row[-1]), []).append(row)
    return rows


ROWS = small_rows()


def runs_of(row):
    return [(value, row.count(value)) for value in sorted(set(row))]


def between(row):
    """How many values of a sorted row are neither its least nor its greatest one."""
    return len([value for value in row if row[0] < value < row[-1]])


def big_heaps():
    for many in (2, 3, 4, 9, BIG):
        for least, greatest in [(-BIG, BIG), (BIG, BIG + 1), (-BIG, -BIG + 10), (0, BIG), (-3, 4)]:
            low = (many - 1) * least + greatest
            high = least + (many - 1) * greatest
            for total in sorted({low, min(low + 1, high), (low + high) // 2, max(high - 1, low), high}):
                yield (many, total, least, greatest)


class Widest(unittest.TestCase):
    def test_the_document_s_own_rows(self):
        for heap, runs in DOCUMENTS:
            with self.subTest(heap=heap):
                self.assertEqual(widest(heap), runs)

    def test_the_row_of_the_document_s_part(self):
        self.assertEqual(widest((3, 3, -2, 4)), [(-2, 1), (1, 1), (4, 1)])

    def test_at_the_ends_of_the_total_and_beside_them(self):
        for total, runs in [
            (12, [(1, 4), (8, 1)]), (13, [(1, 3), (2, 1), (8, 1)]), (18, [(1, 3), (7, 1), (8, 1)]),
            (19, [(1, 3), (8, 2)]), (32, [(1, 1), (7, 1), (8, 3)]), (33, [(1, 1), (8, 4)]),
        ]:
            with self.subTest(total=total):
                self.assertEqual(widest((5, total, 1, 8)), runs)

    def test_of_all_rows_the_one_with_the_fewest_between(self):
        for heap, rows in ROWS.items():
            fewest = min(between(row) for row in rows)
            self.assertLessEqual(fewest, 1)
            self.assertEqual([runs_of(row) for row in rows if between(row) == fewest], [widest(heap)], heap)

    def test_big_heaps(self):
        for heap in big_heaps():
            self.assertIs(can_be(heap), True)
            runs = widest(heap)
            values = [value for value, many in runs]
            self.assertEqual(heap_of(runs), heap)
            self.assertEqual(values, sorted(set(values)))
            self.assertTrue(all(many >= 1 for value, many in runs))
            self.assertLessEqual(sum(many for value, many in runs if heap[2] < value < heap[3]), 1)

    def test_the_kinds_told(self):
        told = widest((5, 20, 1, 8))
        self.assertIs(type(told), list)
        self.assertEqual({type(run) for run in told}, {tuple})

    def test_a_list_told_is_the_askers_own(self):
        for heap, runs in DOCUMENTS:
            told = widest(heap)
            told.append((9, 9))
            told[0] = (0, 0)
            self.assertEqual(widest(heap), runs)


class MostAndLeast(unittest.TestCase):
    def test_the_document_s_own_sums(self):
        self.assertEqual(most_of((5, 20, 1, 8), 3), 18)
        self.assertEqual(least_of((5, 20, 1, 8), 3), 4)

    def test_each_k_of_one_heap(self):
        self.assertEqual([most_of((5, 20, 1, 8), k) for k in range(6)], [0, 8, 16, 18, 19, 20])
        self.assertEqual([least_of((5, 20, 1, 8), k) for k in range(6)], [0, 1, 2, 4, 12, 20])
        self.assertEqual([most_of((3, -15, -9, -3), k) for k in range(4)], [0, -3, -6, -15])
        self.assertEqual([least_of((3, -15, -9, -3), k) for k in range(4)], [0, -9, -12, -15])

    def test_of_all_rows_the_greatest_and_the_least_sum(self):
        for heap, rows in ROWS.items():
            for k in range(heap[0] + 1):
                self.assertEqual(most_of(heap, k), max(sum(row[len(row) - k:]) for row in rows), (heap, k))
                self.assertEqual(least_of(heap, k), min(sum(row[:k]) for row in rows), (heap, k))

    def test_none_and_all(self):
        for heap in [heap for heap, runs in DOCUMENTS] + list(big_heaps()):
            self.assertEqual((most_of(heap, 0), least_of(heap, 0)), (0, 0))
            self.assertEqual((most_of(heap, heap[0]), least_of(heap, heap[0])), (heap[1], heap[1]))

    def test_big_heaps(self):
        for heap in big_heaps():
            self.assertEqual((most_of(heap, 1), least_of(heap, 1)), (heap[3], heap[2]))
            for k in (1, heap[0] // 2, heap[0] - 1):
                self.assertEqual(most_of(heap, k) + least_of(heap, heap[0] - k), heap[1])
                self.assertEqual(most_of(heap, k), min(k * heap[3], heap[1] - (heap[0] - k) * heap[2]))

    def test_k_beyond_the_heap_is_no_number(self):
        for heap in [heap for heap, runs in DOCUMENTS] + [(BIG, BIG * BIG, BIG, BIG)]:
            for k in (-1, -2, -BIG, heap[0] + 1, heap[0] + 2, heap[0] + BIG):
                for asked in (most_of, least_of):
                    with self.subTest(heap=heap, k=k, asked=asked.__name__):
                        with self.assertRaises(NoNumber) as caught:
                            asked(heap, k)
                        self.assertIs(type(caught.exception), NoNumber)

    def test_heaps_told_are_handed_in_again(self):
        heap = poured(heap_of([(BIG, BIG)]), heap_of([(-BIG, 2)]))
        self.assertEqual(most_of(heap, BIG), BIG * BIG)
        self.assertEqual(least_of(heap, 3), -BIG)


if __name__ == "__main__":
    unittest.main()
