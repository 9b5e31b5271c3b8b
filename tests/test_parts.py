import itertools
import unittest

from calls import NOT_YARDS, CallTest
from cellyards.comparing import parting
from cellyards.errors import InvalidOrder, InvalidYard
from cellyards.parts import in_the_way, spare_entries, spare_exits, spare_roads
from cellyards.patterns import is_pattern
from cellyards.yards import Yard
from judges import all_orders, first_difference, patterns_by_trying, proved_within
from samples import (
    NOT_ORDERS, bad_yards, counter, dead_end_yards, full, lane, loops, many_lines, many_sets, mixed_yards,
    no_way_yards, orders_by_trying, parts_of, rich_yards, sample_yards, siding, small_yards, stub, turntable,
    yard_by_number,
)


def only(order, places):
    """The order that comes by leaving all wagons but those at some places out."""
    wagons = [order[place] for place in places]
    return tuple(1 + sum(other < wagon for other in wagons) for wagon in wagons)


class TestInTheWay(CallTest):
    def judge(self, yard, order, made):
        answer = in_the_way(yard, order)
        if made:
            self.assertIsNone(answer)
            return
        self.order_tuple(answer)
        self.assertEqual(answer, tuple(sorted(set(answer))))
        self.assertTrue(set(answer) <= set(range(len(order))))
        few = only(order, answer)
        if len(few) < 7:
            self.assertIn(few, patterns_by_trying(yard, len(few)))
        self.assertIs(is_pattern(yard, few), True)

    def test_each_order_of_few_wagons(self):
        yards = [*sample_yards(), *small_yards()[::3], *mixed_yards(197, 60013), *rich_yards(), *dead_end_yards()]
        for yard in [*yards, *no_way_yards(), full(4)]:
            for n in range(6 if yard.cells < 4 else 5):
                made = orders_by_trying(yard, n)
                for order in all_orders(n):
                    self.judge(yard, order, order in made)

    def test_some(self):
        self.assertIsNone(in_the_way(stub(2), (2, 1)))
        self.assertEqual(in_the_way(stub(2), (3, 1, 2)), (0, 1, 2))
        self.assertEqual(in_the_way(order=(2, 1), yard=lane(3)), (0, 1))
        self.assertEqual(in_the_way(lane(3), (1, 3, 2, 4)), (1, 2))
        self.assertEqual(in_the_way(counter(2), (1, 2, 5, 3, 4)), (2, 3, 4))
        self.assertIn(in_the_way(lane(3), (1, 4, 2, 3)), [(1, 2), (1, 3)])

    def test_a_pattern_is_in_the_way_with_all_its_wagons(self):
        for yard in (stub(3), turntable(), siding(), *rich_yards()[:4]):
            for n in range(1, 6):
                for order in patterns_by_trying(yard, n):
                    self.assertEqual(in_the_way(yard, order), tuple(range(n)))

    def test_no_wagons(self):
        for yard in [*sample_yards(), *no_way_yards()]:
            self.assertIsNone(in_the_way(yard, ()))

    def test_one_wagon_where_none_passes(self):
        for yard in no_way_yards():
            for order in all_orders(4):
                answer = in_the_way(yard, order)
                self.assertEqual(len(answer), 1)
                self.assertIn(answer[0], range(4))

    def test_eight_wagons(self):
        orders = [
            tuple(range(8, 0, -1)), (5, 1, 2, 3, 4, 6, 7, 8), (1, 2, 8, 3, 4, 5, 6, 7), (2, 4, 6, 8, 1, 3, 5, 7),
            (4, 3, 2, 1, 8, 7, 6, 5), (8, 1, 7, 2, 6, 3, 5, 4), (3, 1, 5, 2, 7, 4, 8, 6), tuple(range(1, 9)),
        ]
        for yard in (full(4), stub(4), lane(4), siding(), turntable(), *rich_yards()):
            for order in orders:
                answer = self.quick(in_the_way, yard, order)
                self.judge(yard, order, answer is None)
                self.assertEqual(in_the_way(yard, order), answer)

    def test_wrong_arguments(self):
        for thing in NOT_YARDS:
            self.fails(InvalidYard, "thing", thing, in_the_way, thing, None)
        for thing in NOT_ORDERS:
            self.fails(InvalidOrder, "thing", thing, in_the_way, stub(2), thing)


class SpareTest(CallTest):
    def by_words(self, yard):
        """The roads, entries and exits without which a yard is alike."""
        roads = [road for road in yard.roads if self.alike(yard, yard.without_road(*road))]
        entries = [x for x in yard.entries if self.alike(yard, yard.without_entry(x))]
        exits = [x for x in yard.exits if self.alike(yard, yard.without_exit(x))]
        return tuple(roads), tuple(entries), tuple(exits)

    def alike(self, yard, less):
        """Whether they are alike, proved either by papers or by an order that just one makes."""
        proof = proved_within(yard, less) and proved_within(less, yard)
        if not proof:
            orders = [first_difference(yard, less, n) for n in (3, 6)]
            self.assertNotEqual(orders, [None, None])
        return proof

    def spare(self, yard):
        return tuple(self.quick(call, yard) for call in (spare_roads, spare_entries, spare_exits))

    def judge(self, yard):
        answer = self.spare(yard)
        self.assertEqual(answer, self.by_words(yard), parts_of(yard))
        for part in answer:
            self.assertIs(type(part), tuple)
        for road in answer[0]:
            self.order_tuple(road)
        self.order_tuple(answer[1])
        self.order_tuple(answer[2])
        return answer


class TestSpare(SpareTest):
    def test_all_yards_of_two_cells_and_many_of_three(self):
        for yard in [*small_yards(), *[yard_by_number(3, number) for number in range(2, 4096, 23)]]:
            self.judge(yard)

    def test_other_yards(self):
        for yard in [*sample_yards(), *bad_yards(), *dead_end_yards(), *no_way_yards(), full(3)]:
            if yard.cells < 4:
                self.judge(yard)

    def test_none_of_them(self):
        for yard in (Yard(1), Yard(2), Yard(3)):
            self.assertEqual(self.spare(yard), ((), (), ()))

    def test_one_road_one_entry_one_exit(self):
        self.assertEqual(self.spare(lane(2)), ((), (), ()))
        self.assertEqual(self.spare(lane(1)), ((), (), ()))
        self.assertEqual(self.spare(Yard(2, roads=[(0, 1)], entries=[0], exits=[0])), (((0, 1),), (), ()))
        self.assertEqual(self.spare(Yard(2, roads=[(0, 1)], entries=[1], exits=[0])), (((0, 1),), (1,), (0,)))
        self.assertEqual(self.spare(Yard(2, roads=[(0, 1)])), (((0, 1),), (), ()))
        self.assertEqual(self.spare(Yard(1, entries=[0])), ((), (0,), ()))
        self.assertEqual(self.spare(Yard(1, exits=[0])), ((), (), (0,)))
        self.assertEqual(self.spare(Yard(2, entries=[0, 1], exits=[0])), ((), (1,), ()))
        self.assertEqual(self.spare(Yard(2, entries=[0], exits=[0, 1])), ((), (), (1,)))

    def test_each_alone(self):
        # Without any one of these the yard makes the same; without all of them nothing.
        yard = Yard(2, entries=[0, 1], exits=[0, 1], roads=[(0, 1), (1, 0)])
        roads, entries, exits = self.judge(yard)
        self.assertEqual((roads, entries, exits), (((0, 1), (1, 0)), (0, 1), (0, 1)))
        self.assertIsNone(parting(yard, yard.without_entry(0)))
        self.assertIsNone(parting(yard, yard.without_entry(1)))
        self.assertEqual(parting(yard, yard.without_entry(0).without_entry(1)), (1,))
        self.assertEqual(parting(yard, yard.without_exit(0).without_exit(1)), (1,))

    def test_dead_cells(self):
        yard = Yard(3, roads=[(0, 1), (0, 2), (2, 1)], entries=[0, 2], exits=[0])
        self.assertEqual(yard.dead(), (1, 2))
        self.assertEqual(self.judge(yard), (((0, 1), (0, 2), (2, 1)), (2,), ()))

    def test_the_yard_is_not_changed_and_the_same_again(self):
        for yard in (full(3), stub(3), turntable()):
            before = parts_of(yard)
            self.assertEqual(self.spare(yard), self.spare(yard))
            self.assertEqual(parts_of(yard), before)
            self.assertEqual(spare_roads(yard=yard), spare_roads(yard))
            self.assertEqual(spare_entries(yard=yard), spare_entries(yard))
            self.assertEqual(spare_exits(yard=yard), spare_exits(yard))

    def test_great_yards(self):
        for yard in [full(3), full(4), many_sets(), many_lines(), loops(), *rich_yards()]:
            for part, whole in zip(self.spare(yard), (yard.roads, yard.entries, yard.exits)):
                self.assertEqual(part, tuple(sorted(set(part))))
                self.assertTrue(set(part) <= set(whole))

    def test_wrong_yards(self):
        for thing, call in itertools.product(NOT_YARDS, (spare_roads, spare_entries, spare_exits)):
            self.fails(InvalidYard, "thing", thing, call, thing)


if __name__ == "__main__":
    unittest.main()
