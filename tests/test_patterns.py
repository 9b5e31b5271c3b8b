import unittest

from calls import CallTest
from cellyards.moving import can
from cellyards.orders import order_of
from cellyards.patterns import is_pattern, patterns, patterns_of
from cellyards.yards import Yard
from judges import all_orders, patterns_by_trying, ranks_by_words, without_place
from samples import (
    counter, full, lane, loops, many_lines, many_sets, mixed_yards, no_way_yards, orders_by_trying, rich_yards,
    sample_yards, siding, small_yards, stub, turntable,
)

NO_WAY = no_way_yards()


class PatternTest(CallTest):
    yards = [*sample_yards(), *small_yards(), *mixed_yards(), *rich_yards(), full(4), *NO_WAY]

    def most(self, yard):
        """For how many wagons all moves are tried."""
        return 6 if yard.cells < 4 or yard in rich_yards() else 5


class TestIsPattern(PatternTest):
    def test_each_order_of_few_wagons(self):
        for yard in [*sample_yards(), *small_yards()[::3], *mixed_yards(397, 100003), *rich_yards()]:
            for n in range(6 if yard in rich_yards()[:4] else 5):
                expected = patterns_by_trying(yard, n)
                for order in all_orders(n):
                    self.assertIs(is_pattern(yard, order), order in expected, order)

    def test_some(self):
        self.assertIs(is_pattern(Yard(1), (1,)), True)
        self.assertIs(is_pattern(Yard(1), (1, 2)), False)
        self.assertIs(is_pattern(lane(3), (2, 1)), True)
        self.assertIs(is_pattern(order=(3, 1, 2), yard=stub(3)), True)
        self.assertIs(is_pattern(stub(3), (3, 1, 2, 4)), False)
        self.assertIs(is_pattern(stub(3), (4, 3, 2, 1)), True)
        self.assertIs(is_pattern(stub(3), (3, 2, 1)), False)

    def test_no_wagons(self):
        for yard in self.yards:
            self.assertIs(is_pattern(yard, ()), False)

    def test_forty_wagons(self):
        for yard in (full(4), many_sets(), many_lines(), loops()):
            for order in (tuple(range(1, 41)), tuple(range(40, 0, -1)), tuple(range(1, 36)) + (40, 36, 37, 38, 39)):
                self.assertIs(self.quick(is_pattern, yard, order), False)
        _, (head, ring, tail) = patterns(loops())
        many = (40 - len(head) - len(tail)) // len(ring)
        self.assertGreater(many, 5)
        self.assertIs(self.quick(is_pattern, loops(), order_of(head + ring * many + tail)), True)


class TestPatternsOf(PatternTest):
    def test_all_of_them_in_order(self):
        for yard in self.yards:
            for n in range(self.most(yard) + 1):
                found = patterns_of(yard, n)
                self.assertEqual(found, patterns_by_trying(yard, n))
                self.assertIs(type(found), list)
                for order in found:
                    self.order_tuple(order)

    def test_no_wagons_and_one(self):
        for yard in self.yards:
            self.assertEqual(patterns_of(yard, 0), [])
            self.assertEqual(patterns_of(yard, 1), [] if can(yard, (1,)) else [(1,)])
        for yard in NO_WAY:
            for n in range(2, 7):
                self.assertEqual(patterns_of(yard, n), [])

    def test_lists_that_are_new(self):
        found = patterns_of(n=3, yard=stub(2))
        self.assertEqual(found, [(3, 1, 2), (3, 2, 1)])
        found.clear()
        self.assertEqual(patterns_of(stub(2), 3), [(3, 1, 2), (3, 2, 1)])

    def test_six_wagons(self):
        for yard in rich_yards() + [full(4), stub(4), siding(), turntable()]:
            self.assertEqual(self.quick(patterns_of, yard, 6), patterns_by_trying(yard, 6))


class TestPatterns(PatternTest):
    def test_all_or_a_family(self):
        kinds = {}
        for yard in self.yards:
            kind, lot = self.quick(patterns, yard)
            kinds[kind] = kinds.get(kind, 0) + 1
            if kind == "all":
                self.judge_all(yard, lot)
            else:
                self.assertEqual(kind, "family")
                self.judge_family(yard, lot)
        self.assertGreater(kinds["all"], 50)
        self.assertGreater(kinds["family"], 5)

    def judge_all(self, yard, lot):
        self.assertIs(type(lot), tuple)
        self.assertEqual(lot, tuple(sorted(set(lot), key=lambda order: (len(order), order))))
        few = [order for n in range(self.most(yard) + 1) for order in patterns_by_trying(yard, n)]
        self.assertEqual([order for order in lot if len(order) <= self.most(yard)], few)
        for order in lot:
            self.order_tuple(order)
            self.assertTrue(self.is_pattern_by_leaving_out(yard, order))
            self.assertLessEqual(max(ranks_by_words(order)), yard.cells + 1)

    def is_pattern_by_leaving_out(self, yard, order):
        others = [without_place(order, at) for at in range(len(order))]
        return not can(yard, order) and all(can(yard, other) for other in others)

    def judge_family(self, yard, family):
        self.assertIs(type(family), tuple)
        head, ring, tail = family
        for part in family:
            self.order_tuple(part)
        self.assertGreater(len(ring), 0)
        for t in range(7):
            order = order_of(head + ring * t + tail)
            self.assertTrue(self.is_pattern_by_leaving_out(yard, order), (family, t))
            self.assertIs(is_pattern(yard, order), True)
            if len(order) <= 6:
                self.assertIn(order, patterns_by_trying(yard, len(order)))

    def test_some(self):
        for yard in NO_WAY:
            self.assertEqual(patterns(yard), ("all", ((1,),)))
        self.assertEqual(patterns(lane(4)), ("all", ((2, 1),)))
        self.assertEqual(patterns(yard=stub(2)), ("all", ((3, 1, 2), (3, 2, 1))))
        self.assertEqual(patterns(stub(4)), ("all", ((3, 1, 2), (5, 4, 3, 2, 1))))
        kind, lot = patterns(full(4))
        self.assertEqual((kind, len(lot)), ("all", 24))
        self.assertEqual({(order[0], len(order)) for order in lot}, {(5, 5)})

    def test_long_ones(self):
        yard = Yard(4, roads=[(0, 2), (0, 3), (1, 0), (1, 2)], entries=[0, 1], exits=[1, 2, 3])
        kind, lot = self.quick(patterns, yard)
        self.assertEqual((kind, len(lot), len(lot[-1])), ("all", 96, 14))
        self.judge_all(yard, lot)
        for n in range(1, 9):
            self.assertEqual(patterns_of(yard, n), [order for order in lot if len(order) == n])
        for n in (7, 8):
            self.assertEqual(patterns_of(yard, n), patterns_by_trying(yard, n))

    def test_seven_wagons(self):
        for yard in rich_yards():
            self.assertEqual(patterns_of(yard, 7), patterns_by_trying(yard, 7))

    def test_families_where_there_are_infinitely_many(self):
        for yard in (loops(), many_lines(), many_sets(), rich_yards()[4], rich_yards()[5]):
            kind, family = self.quick(patterns, yard)
            self.assertEqual(kind, "family")
            self.judge_family(yard, family)
            self.assertEqual(patterns(yard), (kind, family))

    def test_just_what_leads_to_no_pattern_is_made(self):
        for yard in (stub(3), counter(2), turntable(), siding(), rich_yards()[3], rich_yards()[11]):
            kind, lot = patterns(yard)
            self.assertEqual(kind, "all")
            bad = set(lot)
            for n in range(7):
                orders = all_orders(n)
                bad |= {order for order in orders if any(without_place(order, at) in bad for at in range(n))}
                self.assertEqual(orders_by_trying(yard, n), {order for order in orders if order not in bad})


if __name__ == "__main__":
    unittest.main()
