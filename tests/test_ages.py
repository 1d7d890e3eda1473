"""Promises 19 to 24: ageing, another rule, pouring together, and the roll made at once."""

import random
import unittest

from thinbook.ages import aged, both, roll_of, under
from thinbook.edges import edges_at, greater
from thinbook.errors import Backward, NoNumber, NoRule
from thinbook.rolls import Roll
from thinbook.rules import Rule

BIG = 10 ** 40 + 7

STEPS = [(5, 1), (10, 5), (20, 10)]
# The edges of this rule on the day 103 are 98, 90, 80 and, of gone, 60.
RULE = Rule(STEPS, 40)
DAY = 103
READINGS = [(104, 8, 1), (100, 1, 2), (98, 4, 1), (97, 7, 1), (91, -3, 1), (89, 5, 2), (85, 6, 1), (80, 2, 1),
            (79, 9, 1), (70, -9, 1), (69, 0, 3), (60, 1, 1), (59, 100, 1)]


def plain_rows(rule, edges, readings):
    """Young ones and heaps by the document's words, of the values one by one."""
    young, cells = {}, {}
    for time, value, many in readings:
        if time >= edges[0]:
            young[(time, value)] = young.get((time, value), 0) + many
        elif edges[-1] is None or time >= edges[-1]:
            width = [step[1] for step, edge in zip(rule.steps(), edges) if edge > time][-1]
            cells.setdefault((time - time % width, width), []).extend([value] * many)
    return ([(time, value, many) for (time, value), many in sorted(young.items())],
            [(start, width, len(row), sum(row), min(row), max(row)) for (start, width), row in sorted(cells.items())])


def rows(roll):
    return (roll.young(), roll.heaps())


def whole(roll):
    """All that a roll tells."""
    return (roll.rule().steps(), roll.rule().gone(), roll.day(), roll.edges(), roll.young(), roll.heaps())


def filled(readings=READINGS, rule=RULE, day=DAY):
    roll = Roll(rule, day)
    for time, value, many in readings:
        roll.put(time, value, many)
    return roll


class RollCase(unittest.TestCase):
    def check_roll(self, roll, rule, day, edges, readings):
        """The roll has this rule, day and edges, and the rows of these readings at once."""
        self.assertIsInstance(roll, Roll)
        self.assertEqual((roll.rule().steps(), roll.rule().gone()), (rule.steps(), rule.gone()))
        self.assertEqual((roll.day(), roll.edges()), (day, edges))
        self.assertEqual(rows(roll), plain_rows(rule, edges, readings))

    def check_refused(self, kind, deed, *handed):
        ahead = [whole(thing) for thing in handed if isinstance(thing, Roll)]
        with self.assertRaises(kind) as caught:
            deed(*handed)
        self.assertIs(type(caught.exception), kind)
        self.assertEqual([whole(thing) for thing in handed if isinstance(thing, Roll)], ahead)
        return caught.exception

    def check_apart(self, new, old):
        """Neither of two rolls changes when something is put into the other one."""
        for one, other in [(new, old), (old, new)]:
            kept = whole(other)
            first, gone = one.edges()[0], one.edges()[-1]
            times = [first + 50, first, first - 1] + [row[0] for row in one.young() + one.heaps()]
            if gone is not None:
                times.append(gone)
            for time in times:
                one.put(time, 77, 5)
                one.put(time, 1)
            self.assertEqual(whole(other), kept)


class Aged(RollCase):
    def test_by_hand(self):
        new = aged(filled(), 110)
        self.assertEqual(new.edges(), [105, 100, 90, 70])
        self.assertEqual(rows(new), ([], [
            (70, 10, 2, 0, -9, 9), (80, 10, 4, 18, 2, 6), (90, 5, 1, -3, -3, -3), (95, 5, 2, 11, 4, 7),
            (100, 1, 2, 2, 1, 1), (104, 1, 1, 8, 8, 8)]))

    def test_a_young_one_at_ahead_of_and_behind_the_new_edge(self):
        new = aged(filled([(104, 1, 1), (105, 1, 1), (106, 1, 1)]), 110)
        self.assertEqual(rows(new), ([(105, 1, 1), (106, 1, 1)], [(104, 1, 1, 1, 1, 1)]))

    def test_a_heap_at_ahead_of_and_behind_the_edge_of_gone(self):
        roll = filled([(60, 1, 1), (69, 1, 1), (70, 2, 1), (80, 3, 1)])
        for day, starts in [(109, [60, 70, 80]), (110, [70, 80]), (119, [70, 80]), (120, [80]), (129, [80]), (130, [])]:
            self.assertEqual([row[0] for row in aged(roll, day).heaps()], starts)

    def test_to_each_day(self):
        for day in list(range(DAY, DAY + 70)) + [DAY + BIG]:
            self.check_roll(aged(filled(), day), RULE, day, edges_at(RULE, day), READINGS)

    def test_to_its_own_day(self):
        roll = filled()
        new = aged(roll, DAY)
        self.assertEqual(whole(new), whole(roll))
        self.check_apart(new, roll)

    def test_edges_are_never_less_than_the_roll_s(self):
        edges = [120, 100, 80, 70]
        roll = roll_of(RULE, DAY, edges, READINGS)
        for day in (DAY, 110, 115, 140):
            self.check_roll(aged(roll, day), RULE, day, greater(edges, edges_at(RULE, day)), READINGS)

    def test_without_gone_nothing_goes(self):
        rule = Rule(STEPS)
        new = aged(filled(READINGS, rule), 10 ** 6)
        self.check_roll(new, rule, 10 ** 6, edges_at(rule, 10 ** 6), READINGS)
        self.assertEqual(sum(row[2] for row in new.heaps()), sum(many for time, value, many in READINGS))

    def test_a_day_ahead_is_backward(self):
        for last, days in [(DAY, (102, 0, -1, -BIG)), (-3, (-4, -BIG)), (BIG, (BIG - 1, 0))]:
            for day in days:
                refusal = self.check_refused(Backward, aged, filled(day=last), day)
                self.assertEqual(refusal.last, last)

    def test_days_below_nought(self):
        rule = Rule([(0, 2), (3, 4)], 5)
        readings = [(time, time, 1) for time in range(-20, 3)]
        for day in range(-7, 8):
            self.check_roll(aged(filled(readings, rule, -7), day), rule, day, edges_at(rule, day), readings)

    def test_numbers_of_forty_figures(self):
        rule = Rule([(0, 1), (BIG, BIG)], 5 * BIG)
        roll = Roll(rule, 9 * BIG)
        roll.put(9 * BIG, BIG, BIG)
        roll.put(9 * BIG + 1, -BIG)
        roll.put(4 * BIG, 3)
        new = aged(roll, 11 * BIG)
        self.assertEqual(rows(new), ([], [(9 * BIG, BIG, BIG + 1, BIG * BIG - BIG, -BIG, BIG)]))

    def test_in_many_steps_as_in_one(self):
        roll = filled()
        for day in range(DAY, DAY + 60):
            roll = aged(roll, day)
            self.assertEqual(whole(roll), whole(aged(filled(), day)))

    def test_the_roll_handed_in_stays_apart(self):
        for day in (DAY, 104, 110, 130, 200):
            roll = filled()
            ahead = whole(roll)
            new = aged(roll, day)
            self.assertEqual(whole(roll), ahead)
            self.check_apart(new, roll)


class Under(RollCase):
    def test_a_shorter_rule(self):
        rule = Rule([(0, 1), (5, 5), (10, 10)], 20)
        new = under(filled(), rule)
        self.assertEqual(new.edges(), [103, 95, 90, 80])
        self.assertEqual(rows(new), ([(104, 8, 1)], [
            (80, 10, 4, 18, 2, 6), (90, 5, 1, -3, -3, -3), (97, 1, 1, 7, 7, 7), (98, 1, 1, 4, 4, 4),
            (100, 1, 2, 2, 1, 1)]))

    def test_a_longer_rule_brings_nothing_back(self):
        for rule in (Rule([(50, 1), (60, 5), (70, 10)], 900), Rule([(50, 1), (60, 5), (70, 10)])):
            roll = filled()
            new = under(roll, rule)
            self.assertEqual((new.rule().steps(), new.rule().gone()), (rule.steps(), rule.gone()))
            self.assertEqual((new.day(), new.edges()), (DAY, [98, 90, 80, 60]))
            self.assertEqual(rows(new), rows(roll))
            self.assertIs(new.put(59, 1), False)
            self.assertIs(new.put(97, 1), True)
            self.assertEqual(new.heaps()[-1], (97, 1, 2, 8, 1, 7))

    def test_edge_by_edge_the_greater_ones(self):
        rule = Rule([(0, 1), (15, 5), (15, 10)], 90)
        self.check_roll(under(filled(), rule), rule, DAY, [103, 90, 80, 60], READINGS)
        rule = Rule([(8, 1), (8, 5), (30, 10)], 30)
        self.check_roll(under(filled(), rule), rule, DAY, [98, 95, 80, 70], READINGS)

    def test_gone_where_there_was_none(self):
        roll = filled(READINGS, Rule(STEPS))
        new = under(roll, RULE)
        self.check_roll(new, RULE, DAY, [98, 90, 80, 60], READINGS)
        back = under(new, Rule(STEPS))
        self.check_roll(back, Rule(STEPS), DAY, [98, 90, 80, 60], READINGS)

    def test_its_own_rule(self):
        roll = filled()
        self.assertEqual(whole(under(roll, RULE)), whole(roll))

    def test_the_day_is_the_roll_s(self):
        roll = aged(filled(), 117)
        rule = Rule([(1, 1), (2, 5), (3, 10)], 4)
        self.check_roll(under(roll, rule), rule, 117, greater(edges_at(RULE, 117), edges_at(rule, 117)), READINGS)

    def test_aged_behind_it_by_the_other_rule(self):
        rule = Rule([(50, 1), (60, 5), (70, 10)], 900)
        new = aged(under(filled(), rule), 160)
        self.check_roll(new, rule, 160, [110, 100, 90, 60], READINGS)

    def test_other_widths_are_no_rule(self):
        for steps in [
            [(5, 1), (10, 5)], [(5, 1)], [(5, 1), (10, 5), (20, 10), (20, 10)], [(5, 1), (10, 5), (20, 20)],
            [(5, 1), (10, 1), (20, 10)], [(5, 5), (10, 5), (20, 10)], [(5, 1), (10, 10), (20, 10)],
            [(5, 10), (10, 10), (20, 10)],
        ]:
            for gone in (None, 40):
                with self.subTest(steps=steps, gone=gone):
                    self.check_refused(NoRule, under, filled(), Rule(steps, gone))

    def test_the_roll_handed_in_stays_apart(self):
        for steps, gone in [(STEPS, 40), ([(0, 1), (5, 5), (10, 10)], 20), ([(50, 1), (60, 5), (70, 10)], None)]:
            roll = filled()
            ahead = whole(roll)
            new = under(roll, Rule(steps, gone))
            self.assertEqual(whole(roll), ahead)
            self.check_apart(new, roll)


class Both(RollCase):
    def test_by_hand(self):
        one = filled([(100, 1, 1), (85, 4, 1), (69, 2, 1)])
        other = filled([(100, 1, 2), (100, 0, 1), (86, -4, 2), (75, 3, 1)])
        told = ([(100, 0, 1), (100, 1, 3)], [(60, 10, 1, 2, 2, 2), (70, 10, 1, 3, 3, 3), (85, 5, 3, -4, -4, 4)])
        self.assertEqual(rows(both(one, other)), told)
        self.assertEqual(rows(both(other, one)), told)

    def test_on_the_later_day(self):
        late = [(107, 3, 1), (96, 5, 1), (72, 6, 1), (60, 7, 1), (69, 7, 1)]
        for day in (DAY, 104, 110, 125, 300):
            one, other = filled(), filled(late, day=day)
            edges = edges_at(RULE, day)
            self.check_roll(both(one, other), RULE, day, edges, READINGS + late)
            self.check_roll(both(other, one), RULE, day, edges, READINGS + late)

    def test_edge_by_edge_the_greater_ones(self):
        one = roll_of(RULE, DAY, [110, 100, 80, 60], READINGS)
        other = roll_of(RULE, DAY, [105, 105, 90, 60], READINGS)
        third = Roll(RULE, 111)
        self.check_roll(both(one, other), RULE, DAY, [110, 105, 90, 60], READINGS * 2)
        self.check_roll(both(other, one), RULE, DAY, [110, 105, 90, 60], READINGS * 2)
        # The rule's edges on the later day count too, beside those of either.
        self.check_roll(both(both(one, third), other), RULE, 111, [110, 105, 90, 70], READINGS * 2)

    def test_a_roll_with_itself_has_each_reading_twice(self):
        roll = filled()
        ahead = whole(roll)
        new = both(roll, roll)
        self.assertEqual(whole(roll), ahead)
        self.check_roll(new, RULE, DAY, [98, 90, 80, 60], READINGS * 2)
        self.check_apart(new, roll)

    def test_with_an_empty_one(self):
        roll = filled()
        self.assertEqual(whole(both(roll, Roll(RULE, 0))), whole(roll))
        self.assertEqual(whole(both(Roll(RULE, DAY), roll)), whole(roll))
        self.assertEqual(rows(both(Roll(RULE, 0), Roll(RULE, 1))), ([], []))

    def test_rules_that_tell_the_same_may_be_made_apart(self):
        self.check_roll(both(filled(), filled(rule=Rule(list(STEPS), 40))), RULE, DAY, [98, 90, 80, 60], READINGS * 2)

    def test_unlike_rules_are_no_rule(self):
        for steps, gone in [
            (STEPS, 41), (STEPS, None), ([(5, 1), (10, 5), (21, 10)], 40), ([(4, 1), (10, 5), (20, 10)], 40),
            ([(5, 1), (10, 5), (20, 20)], 40), ([(5, 1), (10, 5)], 40), (STEPS + [(20, 10)], 40), ([(5, 1)], None),
        ]:
            with self.subTest(steps=steps, gone=gone):
                # Days and edges may be alike, the rules still are not.
                self.check_refused(NoRule, both, filled(), filled(rule=Rule(steps, gone)))
                self.check_refused(NoRule, both, filled(rule=Rule(steps, gone)), filled())

    def test_numbers_of_forty_figures(self):
        one = filled([(85, BIG, BIG), (100, BIG, BIG)])
        other = filled([(86, -BIG, BIG), (100, BIG, BIG)])
        self.assertEqual(rows(both(one, other)), ([(100, BIG, 2 * BIG)], [(85, 5, 2 * BIG, 0, -BIG, BIG)]))

    def test_the_rolls_handed_in_stay_apart(self):
        for day in (DAY, 110, 90):
            one, other = filled(), filled(READINGS[:5], day=day)
            ahead = (whole(one), whole(other))
            new = both(one, other)
            self.assertEqual((whole(one), whole(other)), ahead)
            self.check_apart(new, one)
            self.check_apart(new, other)
            self.check_apart(one, other)


class RollOf(RollCase):
    def test_the_rule_s_own_edges(self):
        roll = roll_of(RULE, DAY, [98, 90, 80, 60], READINGS)
        self.assertEqual(whole(roll), whole(filled()))

    def test_the_greater_ones_of_the_edges_told_and_the_rule_s(self):
        for edges, told in [
            ([0, 0, 0, 0], [98, 90, 80, 60]), ([0, 0, 0, None], [98, 90, 80, 60]),
            ([97, 85, 70, 50], [98, 90, 80, 60]), ([99, 95, 90, 70], [99, 95, 90, 70]),
            ([200, 0, 0, 0], [200, 90, 80, 60]), ([98, 90, 90, 60], [98, 90, 90, 60]),
            ([100, 100, 100, 100], [100, 100, 100, 100]), ([BIG, -10 * BIG, -10 * BIG, None], [BIG, 90, 80, 60]),
        ]:
            with self.subTest(edges=edges):
                self.check_roll(roll_of(RULE, DAY, edges, READINGS), RULE, DAY, told, READINGS)

    def test_gone_told_by_the_edges_alone(self):
        rule = Rule(STEPS)
        self.check_roll(roll_of(rule, DAY, [0, 0, 0, 0], READINGS), rule, DAY, [98, 90, 80, 0], READINGS)
        self.check_roll(roll_of(rule, DAY, [0, 0, 0, 70], READINGS), rule, DAY, [98, 90, 80, 70], READINGS)
        self.check_roll(roll_of(rule, DAY, [0, 0, 0, None], READINGS), rule, DAY, [98, 90, 80, None], READINGS)

    def test_no_readings(self):
        self.check_roll(roll_of(RULE, DAY, [98, 90, 80, 60], []), RULE, DAY, [98, 90, 80, 60], [])

    def test_the_order_is_free(self):
        chance = random.Random(23)
        for count in range(20):
            mixed = chance.sample(READINGS, len(READINGS))
            self.assertEqual(whole(roll_of(RULE, DAY, [105, 90, 90, 70], mixed)),
                             whole(roll_of(RULE, DAY, [105, 90, 90, 70], READINGS)))

    def test_edges_of_another_length_are_no_rule(self):
        for edges in [[], [None], [98], [98, 90, 80], [98, 90, 60], [98, 90, 80, 80, 60], [98, 90, 80, None, None]]:
            for readings in ([], READINGS, [(100, 1, 0)]):
                with self.subTest(edges=edges):
                    self.check_refused(NoRule, roll_of, RULE, DAY, edges, readings)

    def test_many_below_1_is_no_number(self):
        for time in (100, 85, 59):
            for many in (0, -1):
                readings = [(100, 1, 1), (time, 1, many)]
                self.check_refused(NoNumber, roll_of, RULE, DAY, [98, 90, 80, 60], readings)

    def test_the_lists_handed_in_stay_and_may_change(self):
        edges, readings = [105, 0, 0, 0], list(READINGS)
        roll = roll_of(RULE, DAY, edges, readings)
        ahead = whole(roll)
        roll.put(200, 1)
        self.assertEqual((edges, readings), ([105, 0, 0, 0], READINGS))
        edges[0] = 500
        edges.append(None)
        readings.append((100, 1, 1))
        readings[0] = (0, 0, 1)
        self.assertEqual(whole(roll)[3], ahead[3])
        self.assertEqual(roll.young(), ahead[4] + [(200, 1, 1)])
        self.assertEqual(roll.heaps(), ahead[5])

    def test_edges_told_are_the_askers_own(self):
        for new in (aged(filled(), 110), under(filled(), RULE), both(filled(), filled()),
                    roll_of(RULE, DAY, [105, 90, 80, 60], READINGS)):
            ahead = whole(new)
            for told in (new.edges(), new.young(), new.heaps(), new.rule().steps()):
                told.append(None)
                told[0] = None
            self.assertEqual(whole(new), ahead)


class Kept:
    """A roll, and beside it what the document says it came of."""

    def __init__(self, roll, rule, day, edges, readings):
        self.roll, self.rule, self.day, self.edges, self.readings = roll, rule, day, edges, readings


class Promise(RollCase):
    """Promise 24: whatever the way, the roll of all readings at once."""

    WIDTHS = [(1,), (4,), (1, 3), (2, 2, 6), (1, 5, 10), (3, 3, 6, 12), (1, 2, 2, 4, 8)]

    def some_rule(self, chance, widths):
        ages = sorted(chance.randint(0, 12) for width in widths)
        gone = chance.choice([None, ages[-1] + chance.randint(0, 9), ages[-1] + chance.randint(10, 40)])
        return Rule(list(zip(ages, widths)), gone)

    def put_some(self, chance, kept):
        for count in range(chance.randint(0, 6)):
            reading = (kept.day - chance.randint(-8, 35), chance.randint(-6, 6), chance.randint(1, 3))
            gone = kept.edges[-1] is not None and reading[0] < kept.edges[-1]
            self.assertIs(kept.roll.put(*reading), not gone)
            kept.readings.append(reading)

    def age_one(self, chance, kept):
        day = kept.day + chance.choice([0, 1, 1, 2, 3, 7])
        return Kept(aged(kept.roll, day), kept.rule, day, greater(kept.edges, edges_at(kept.rule, day)),
                    list(kept.readings))

    def move_one(self, kept, rule):
        return Kept(under(kept.roll, rule), rule, kept.day, greater(kept.edges, edges_at(rule, kept.day)),
                    list(kept.readings))

    def pour_two(self, one, other):
        moved = self.move_one(other, one.rule)
        day = max(one.day, moved.day)
        edges = greater(greater(one.edges, moved.edges), edges_at(one.rule, day))
        return Kept(both(one.roll, moved.roll), one.rule, day, edges, one.readings + moved.readings)

    def next_one(self, chance, pool, rules):
        deed = chance.randint(0, 3)
        if deed == 0:
            return self.move_one(chance.choice(pool), chance.choice(rules))
        if deed == 1:
            return self.pour_two(chance.choice(pool), chance.choice(pool))
        return self.age_one(chance, chance.choice(pool))

    def check_kept(self, chance, kept):
        self.check_roll(kept.roll, kept.rule, kept.day, kept.edges, kept.readings)
        mixed = chance.sample(kept.readings, len(kept.readings))
        self.assertEqual(whole(roll_of(kept.rule, kept.day, kept.edges, mixed)), whole(kept.roll))

    def check_history(self, chance, widths):
        rules = [self.some_rule(chance, widths) for count in range(3)]
        day = chance.randint(-20, 20)
        pool = [Kept(Roll(rule, day), rule, day, edges_at(rule, day), []) for rule in rules]
        for count in range(14):
            for kept in pool:
                self.put_some(chance, kept)
            pool.append(self.next_one(chance, pool, rules))
            # A pool of few rolls, so that one is often made of many deeds.
            if len(pool) > 5:
                pool.pop(chance.randrange(len(pool)))
        for kept in pool:
            self.check_kept(chance, kept)

    def test_histories(self):
        chance = random.Random(24)
        for count in range(20):
            for widths in self.WIDTHS:
                self.check_history(chance, widths)

    def test_late_readings_come_to_the_same_as_early_ones(self):
        for day in (104, 110, 131):
            late = aged(Roll(RULE, DAY), day)
            for time, value, many in READINGS:
                late.put(time, value, many)
            self.assertEqual(whole(late), whole(aged(filled(), day)))

    def test_ageing_first_or_pouring_first(self):
        other_readings = [(90, 3, 1), (88, -7, 2), (101, 5, 1), (66, 6, 1)]
        for last in (DAY, 106):
            one, other = filled(), filled(other_readings, day=last)
            for day in range(106, 150, 4):
                first = both(aged(one, day), aged(other, day))
                self.assertEqual(whole(first), whole(aged(both(one, other), day)))


if __name__ == "__main__":
    unittest.main()
