"""Promises 27, 28 and, of 29, the words: the pair of both ends, and what lies within at an end."""

import itertools
import math
import random
import unittest

from thinbook import measures
from thinbook.errors import NoAnswer, NoAsk
from thinbook.heaps import can_be, heap_of, poured
from thinbook.measures import Greatest, HowMany, Least, Mean, Measure, Total, measure
from thinbook.widest import widest

BIG = 10 ** 40 + 7

WORDS = ["many", "sum", "least", "greatest", "mean"]
KINDS = {"many": HowMany, "sum": Total, "least": Least, "greatest": Greatest, "mean": Mean}

# The document's own known heap and part.
KNOWN = [(2, 10, 4, 6)]
PARTS = [(3, 3, -2, 4)]


def choices_of_small_heaps():
    """For each small heap the heaps of all that can be chosen of it, None where that is no reading."""
    choices = {}
    for many in range(1, 5):
        for row in itertools.combinations_with_replacement(range(-2, 4), many):
            some = choices.setdefault(heap_of([(value, 1) for value in row]), {None})
            for k in range(1, many + 1):
                some.update(heap_of([(value, 1) for value in few]) for few in itertools.combinations(row, k))
    return choices


CHOICES = choices_of_small_heaps()


def fraction(total, many):
    divisor = math.gcd(total, many)
    return (total // divisor, many // divisor)


def answer_of(word, heap):
    """The answer of all readings of a heap, or of none (None)."""
    if heap is None:
        return 0 if word in ("many", "sum") else None
    return {"many": heap[0], "sum": heap[1], "least": heap[2], "greatest": heap[3],
            "mean": fraction(heap[1], heap[0])}[word]


def all_together(heaps):
    whole = None
    for heap in heaps:
        if heap is not None:
            whole = heap if whole is None else poured(whole, heap)
    return whole


def is_less(word, one, other):
    return one[0] * other[1] < other[0] * one[1] if word == "mean" else one < other


def pair_by_trying(word, known, parts):
    """The least and the greatest of the answers of all choices."""
    low = high = None
    for few in itertools.product(*[CHOICES[part] for part in parts]):
        one = answer_of(word, all_together(known + list(few)))
        if one is not None:
            low = one if low is None or is_less(word, one, low) else low
            high = one if high is None or is_less(word, high, one) else high
    return (low, high)


class MeasureCase(unittest.TestCase):
    def check_pairs(self, known, parts, pairs):
        """These are the five pairs, and what is chosen at their ends has them."""
        for word, pair in zip(WORDS, pairs):
            with self.subTest(word=word, known=known, parts=parts):
                self.assertEqual(measure(word).told(known, parts), pair)
                self.check_chosen(word, known, parts)

    def check_chosen(self, word, known, parts):
        for high in (False, True):
            end = measure(word).told(known, parts)[1 if high else 0]
            if end is None:
                with self.assertRaises(NoAnswer) as caught:
                    measure(word).chosen(known, parts, high)
                self.assertIs(type(caught.exception), NoAnswer)
            else:
                self.check_runs(word, known, parts, measure(word).chosen(known, parts, high), end)

    def check_runs(self, word, known, parts, chosen, end):
        where = (word, known, parts, chosen, end)
        self.assertEqual((type(chosen), len(chosen)), (list, len(parts)), where)
        for part, runs in zip(parts, chosen):
            self.assertIs(type(runs), list, where)
            values = [value for value, many in runs]
            self.assertEqual(values, sorted(set(values)), where)
            there = dict(widest(part))
            for value, many in runs:
                self.assertTrue(1 <= many <= there.get(value, 0), where)
        within = all_together(known + [heap_of(runs) for runs in chosen])
        self.assertEqual(answer_of(word, within), end, where)


class ByHand(MeasureCase):
    def test_the_document_s_own_example(self):
        self.check_pairs(KNOWN, PARTS, [(2, 5), (8, 15), (-2, 4), (6, 6), ((9, 4), (5, 1))])

    def test_the_document_s_example_chosen(self):
        self.assertEqual(HowMany().chosen(KNOWN, PARTS, False), [[]])
        self.assertEqual(HowMany().chosen(KNOWN, PARTS, True), [[(-2, 1), (1, 1), (4, 1)]])
        self.assertEqual(Total().chosen(KNOWN, PARTS, False), [[(-2, 1)]])
        self.assertEqual(Total().chosen(KNOWN, PARTS, True), [[(1, 1), (4, 1)]])
        self.assertEqual(Mean().chosen(KNOWN, PARTS, False), [[(-2, 1), (1, 1)]])
        self.assertEqual(Mean().chosen(KNOWN, PARTS, True), [[]])

    def test_neither_known_heaps_nor_parts(self):
        self.check_pairs([], [], [(0, 0), (0, 0), (None, None), (None, None), (None, None)])
        for word in ("many", "sum"):
            for high in (False, True):
                self.assertEqual(measure(word).chosen([], [], high), [])

    def test_known_heaps_alone(self):
        self.check_pairs([(2, 10, 4, 6), (1, 5, 5, 5)], [], [(3, 3), (15, 15), (4, 4), (6, 6), ((5, 1), (5, 1))])
        for word in WORDS:
            for high in (False, True):
                self.assertEqual(measure(word).chosen([(2, 10, 4, 6)], [], high), [])

    def test_parts_alone(self):
        self.check_pairs([], PARTS, [(0, 3), (-2, 5), (-2, 4), (-2, 4), ((-2, 1), (4, 1))])
        self.check_pairs([], [(2, 6, 1, 5), (2, 14, 6, 8)], [(0, 4), (0, 20), (1, 8), (1, 8), ((1, 1), (8, 1))])
        self.check_pairs([], [(2, -6, -5, -1), (2, -14, -8, -6)],
                         [(0, 4), (-20, 0), (-8, -1), (-8, -1), ((-8, 1), (-1, 1))])

    def test_parts_of_one_value(self):
        self.check_pairs([(1, 3, 3, 3)], [(1, 5, 5, 5)], [(1, 2), (3, 8), (3, 3), (3, 5), ((3, 1), (4, 1))])
        self.check_pairs([(1, 3, 3, 3)], [(4, -8, -2, -2)],
                         [(1, 5), (-5, 3), (-2, 3), (3, 3), ((-1, 1), (3, 1))])
        self.check_pairs([(1, 3, 3, 3)], [(4, 0, 0, 0)], [(1, 5), (3, 3), (0, 3), (3, 3), ((3, 5), (3, 1))])
        self.check_pairs([], [(4, 12, 3, 3)], [(0, 4), (0, 12), (3, 3), (3, 3), ((3, 1), (3, 1))])

    def test_parts_of_two_readings(self):
        self.check_pairs([(1, 3, 3, 3)], [(2, 9, 2, 7)], [(1, 3), (3, 12), (2, 3), (3, 7), ((5, 2), (5, 1))])
        self.check_pairs([(2, 0, 0, 0)], [(2, 0, -3, 3)], [(2, 4), (-3, 3), (-3, 0), (0, 3), ((-1, 1), (1, 1))])

    def test_a_part_whose_least_is_greater_than_what_is_known(self):
        self.check_pairs([(2, 2, 1, 1)], [(3, 15, 4, 6)], [(2, 5), (2, 17), (1, 1), (1, 6), ((1, 1), (17, 5))])

    def test_a_part_whose_greatest_is_less_than_what_is_known(self):
        self.check_pairs([(2, 18, 9, 9)], [(3, 15, 4, 6)], [(2, 5), (18, 33), (4, 9), (9, 9), ((33, 5), (9, 1))])

    def test_the_value_between_counts_too(self):
        # The widest row is 1, 1, 2, 8, 8: no row has three readings that sum up to less than 4.
        self.check_pairs([(1, 9, 9, 9)], [(5, 20, 1, 8)], [(1, 6), (9, 29), (1, 9), (9, 9), ((13, 4), (9, 1))])
        self.check_pairs([(1, 0, 0, 0)], [(5, -20, -8, -1)],
                         [(1, 6), (-20, 0), (-8, 0), (0, 0), ((-16, 3), (0, 1))])

    def test_many_parts_draw_the_mean_together(self):
        self.check_pairs([(1, 10, 10, 10)], [(2, 10, 1, 9), (1, 4, 4, 4), (2, 25, 5, 20)],
                         [(1, 6), (10, 49), (1, 10), (10, 20), ((5, 1), (15, 1))])


class Means(MeasureCase):
    def check_mean(self, known, parts, low, high):
        self.assertEqual(Mean().told(known, parts), (low, high))
        self.check_chosen("mean", known, parts)

    def test_ends_that_are_the_same(self):
        self.check_mean([(3, 7, 1, 4)], [], (7, 3), (7, 3))
        self.check_mean([(2, 10, 4, 6)], [(3, 15, 5, 5)], (5, 1), (5, 1))
        self.check_mean([], [(3, 15, 5, 5), (1, 5, 5, 5)], (5, 1), (5, 1))

    def test_nought(self):
        self.check_mean([(4, 0, -1, 1)], [], (0, 1), (0, 1))
        self.check_mean([(4, 4, 1, 1)], [(1, -4, -4, -4)], (0, 1), (1, 1))

    def test_below_nought(self):
        self.check_mean([(2, -3, -2, -1)], [], (-3, 2), (-3, 2))
        self.check_mean([(2, -8, -5, -3)], [(3, -9, -7, 0)], (-5, 1), (-5, 2))

    def test_lowest_terms(self):
        self.check_mean([(6, 8, 0, 4)], [], (4, 3), (4, 3))
        self.check_mean([(6, -8, -4, 0)], [], (-4, 3), (-4, 3))
        self.check_mean([(6, 12, 0, 4)], [], (2, 1), (2, 1))

    def test_a_large_bottom(self):
        self.check_mean([(BIG, BIG + 1, 1, 2)], [], (BIG + 1, BIG), (BIG + 1, BIG))
        self.check_mean([(1, 1, 1, 1)], [(BIG - 1, 0, 0, 0)], (1, BIG), (1, 1))
        self.check_mean([(1, -1, -1, -1)], [(BIG - 1, 0, 0, 0)], (-1, 1), (-1, BIG))

    def test_kinds(self):
        for end in Mean().told(KNOWN, PARTS) + Mean().told([], [(2, 3, 1, 2)]):
            self.assertEqual((type(end), len(end)), (tuple, 2))
            self.assertEqual([type(number) for number in end], [int, int])

    def test_a_value_that_is_the_mean_already(self):
        self.check_mean([(2, 6, 2, 4)], [(3, 9, 2, 4)], (8, 3), (10, 3))
        self.check_mean([(1, 3, 3, 3)], [(2, 6, 3, 3)], (3, 1), (3, 1))


class ByTrying(MeasureCase):
    def check_by_trying(self, known, parts):
        for word in WORDS:
            pair = measure(word).told(known, parts)
            self.assertIs(type(pair), tuple)
            self.assertEqual(pair, pair_by_trying(word, known, parts), (word, known, parts))
            self.check_chosen(word, known, parts)

    def test_each_small_part_alone_and_with_a_known_heap(self):
        for part in CHOICES:
            for known in ([], [(1, 0, 0, 0)], [(2, 1, 0, 1)], [(1, -3, -3, -3)], [(3, 8, 2, 3)]):
                self.check_by_trying(known, [part])

    def test_several_parts(self):
        dice = random.Random(28)
        heaps = sorted(CHOICES)
        for case in range(250):
            known = dice.sample(heaps, dice.choice([0, 0, 1, 2]))
            self.check_by_trying(known, dice.choices(heaps, k=dice.choice([2, 2, 3])))

    def test_all_that_can_be_lies_within(self):
        # Two rows of one heap: the one that was is not always the widest one.
        known = [(1, 2, 2, 2)]
        part = heap_of([(-1, 1), (0, 1), (1, 1), (2, 1)])
        self.assertNotEqual(widest(part), [(-1, 1), (0, 1), (1, 1), (2, 1)])
        for few in CHOICES[part]:
            for word in WORDS:
                low, high = measure(word).told(known, [part])
                one = answer_of(word, all_together(known + [few]))
                self.assertFalse(is_less(word, one, low) or is_less(word, high, one), (word, few))


class BigNumbers(MeasureCase):
    def test_by_hand(self):
        self.check_pairs([(BIG, BIG * BIG, BIG, BIG)], [(2, 0, -BIG, BIG)],
                         [(BIG, BIG + 2), (BIG * BIG - BIG, BIG * BIG + BIG), (-BIG, BIG), (BIG, BIG),
                          (fraction(BIG * BIG - BIG, BIG + 1), (BIG, 1))])

    def test_what_is_chosen_has_the_ends(self):
        heaps = [(1, BIG, BIG, BIG), (BIG, -BIG * BIG, -BIG, -BIG), (BIG, 3, -BIG, BIG), (3, BIG, -BIG, BIG),
                 (BIG, 2 * BIG + 1, 0, BIG), (2, 1, -BIG, BIG + 1)]
        for heap in heaps:
            self.assertIs(can_be(heap), True)
        for known_many in (0, 1, 2):
            for known in itertools.combinations(heaps, known_many):
                for parts in itertools.combinations(heaps, 2):
                    for word in WORDS:
                        self.check_chosen(word, list(known), list(parts))

    def test_the_mean_of_big_numbers_is_as_low_as_can_be(self):
        known = [(BIG, 3 * BIG + 1, 1, 5)]
        part = (BIG, 3 * BIG, 2, 4)
        low, high = Mean().told(known, [part])
        runs = widest(part)
        sums = [(known[0][1], BIG)]
        for value, many in runs + runs[::-1]:
            for k in (1, many // 2, many):
                sums.append((known[0][1] + k * value, BIG + k))
        for total, many in sums:
            self.assertTrue(low[0] * many <= total * low[1] and total * high[1] <= high[0] * many)
        self.assertEqual(math.gcd(*low), 1)
        self.assertEqual(math.gcd(*high), 1)


class Words(unittest.TestCase):
    def test_each_word_has_its_class(self):
        for word, kind in KINDS.items():
            self.assertIs(type(measure(word)), kind)

    def test_all_stand_under_measure_and_none_under_another_one(self):
        for kind in KINDS.values():
            self.assertTrue(issubclass(kind, Measure))
            self.assertEqual([other for other in KINDS.values() if issubclass(kind, other)], [kind])

    def test_classes_are_made_without_arguments(self):
        for word, kind in KINDS.items():
            self.assertEqual(kind().told(KNOWN, PARTS), measure(word).told(KNOWN, PARTS))

    def test_other_words_ask_for_nothing(self):
        for word in ["", " ", "all", "Many", "MANY", "many ", " many", "many\n", "manysum", "man", "total", "count",
                     "mean sum", "avg", "least greatest", "none", "0"]:
            with self.subTest(word=word):
                with self.assertRaises(NoAsk) as caught:
                    measure(word)
                self.assertIs(type(caught.exception), NoAsk)

    def test_there_are_no_more_classes_than_these(self):
        own = [thing for thing in vars(measures).values() if isinstance(thing, type) and issubclass(thing, Measure)]
        self.assertEqual(set(own), set(KINDS.values()) | {Measure})


class Apart(unittest.TestCase):
    def test_lists_handed_in_stay_as_they_are(self):
        for word in WORDS:
            known, parts = list(KNOWN), PARTS + [(2, 9, 2, 7)]
            ask = measure(word)
            ask.told(known, parts)
            ask.chosen(known, parts, False)
            ask.chosen(known, parts, True)
            self.assertEqual((known, parts), (KNOWN, PARTS + [(2, 9, 2, 7)]))

    def test_lists_told_are_the_asker_s_own(self):
        for word in WORDS:
            ask = measure(word)
            for high in (False, True):
                first = ask.chosen(KNOWN, PARTS + PARTS, high)
                kept = [list(runs) for runs in first]
                # Neither are the lists of two parts alike one list.
                first[0].append((99, 1))
                self.assertEqual(first[1], kept[1])
                first[1].append((98, 1))
                first.append([])
                self.assertEqual(ask.chosen(KNOWN, PARTS + PARTS, high), kept)
                self.assertEqual(measure(word).chosen(KNOWN, PARTS + PARTS, high), kept)

    def test_what_is_changed_after_it_was_handed_in_changes_nothing(self):
        for word in WORDS:
            known, parts = list(KNOWN), list(PARTS)
            ask = measure(word)
            pair, runs = ask.told(known, parts), ask.chosen(known, parts, True)
            kept = [list(some) for some in runs]
            known.append((1, 100, 100, 100))
            parts.clear()
            self.assertEqual(runs, kept)
            self.assertEqual(ask.told(KNOWN, PARTS), pair)


if __name__ == "__main__":
    unittest.main()
