"""What the document says of the whole program: what its modules tell of one yard, and of several, agrees."""

import unittest

from calls import CallTest
from cellyards.blind import blind, blind_paper, is_blind_paper
from cellyards.comparing import is_within, parted, parting, within, within_paper
from cellyards.counting import count, number_of, order_at, orders_of, rule
from cellyards.desks import Desk
from cellyards.moving import bar, can, fewest_moves, is_bar, is_run, order_made
from cellyards.orders import inverse, is_order, left_out, order_of, ranks_of, turned_about
from cellyards.parts import in_the_way, spare_entries, spare_exits, spare_roads
from cellyards.patterns import is_pattern, patterns, patterns_of
from cellyards.rooms import loop, room
from cellyards.yards import Yard
from judges import all_orders, patterns_by_trying
from samples import (
    bad_yards, counter, dead_end_yards, full, lane, loops, many_lines, mixed_yards, no_way_yards, orders_by_trying,
    rich_yards, sample_yards, siding, small_yards, stub, turntable, yard_by_number,
)


def in_a_row(p, s):
    """The order (p(s(1)), p(s(2)), ..)."""
    return tuple(p[wagon - 1] for wagon in s)


def three_cells(step):
    return [yard_by_number(3, number) for number in range(1, 4096, step)]


class WholeTest(CallTest):
    yards = [
        *sample_yards(), *small_yards()[::2], *mixed_yards(197, 60013), *rich_yards()[::3], *bad_yards(),
        *dead_end_yards(), *no_way_yards(),
    ]

    def most(self, yard):
        return 4 if yard.cells < 4 else 3


class TestTurned(WholeTest):
    def test_orders_turned_about_with_as_few_moves(self):
        for yard in [*self.yards, *three_cells(61)]:
            turned = yard.turned()
            for n in range(self.most(yard) + 1):
                for order in all_orders(n):
                    moves, about = fewest_moves(yard, order), fewest_moves(turned, turned_about(order))
                    self.assertEqual(moves is None, about is None)
                    self.assertEqual(can(yard, order), can(turned, turned_about(order)))
                    if moves is not None:
                        self.assertEqual(len(moves), len(about))

    def test_a_run_read_from_behind(self):
        names = {"in": "out", "out": "in", "road": "road"}
        for yard in self.yards:
            for order in orders_of(yard, self.most(yard)):
                moves = [(names[move[0]], *move[:0:-1]) for move in reversed(fewest_moves(yard, order))]
                self.assertEqual(order_made(yard.turned(), moves), turned_about(order))

    def test_counts_rules_patterns_and_comparisons(self):
        for yard in self.yards:
            turned = yard.turned()
            self.assertEqual(rule(turned), rule(yard))
            self.assertEqual([count(turned, n) for n in range(12)], [count(yard, n) for n in range(12)])
            self.assertEqual(patterns(turned)[0], patterns(yard)[0])
            for n in range(6):
                about = sorted(turned_about(order) for order in patterns_of(yard, n))
                self.assertEqual(patterns_of(turned, n), about)
        yards = self.yards[:12]
        for inner in yards:
            for outer in yards:
                order, about = within(inner, outer), within(inner.turned(), outer.turned())
                self.assertEqual(order is None, about is None)
                if order is not None:
                    self.assertEqual(len(about), len(order))

    def test_spare_ones_are_spare_in_the_turned_yard(self):
        for yard in [*small_yards()[::3], *three_cells(211)]:
            turned = yard.turned()
            self.assertEqual(spare_roads(turned), tuple(sorted((y, x) for x, y in spare_roads(yard))))
            self.assertEqual(spare_entries(turned), spare_exits(yard))
            self.assertEqual(spare_exits(turned), spare_entries(yard))


class TestInARow(WholeTest):
    few = [
        lane(1), stub(2), counter(2), lane(2), Yard(2, roads=[(0, 1)], entries=[0, 1], exits=[0]), Yard(1),
        Yard(2, roads=[(0, 1)], entries=[0, 1], exits=[0, 1]), Yard(2, entries=[0, 1], exits=[1]),
    ]

    def test_it_makes_what_one_makes_of_the_others(self):
        for first in self.few:
            for second in self.few:
                row = first + second
                for n in range(5):
                    made = {in_a_row(p, s) for p in orders_of(first, n) for s in orders_of(second, n)}
                    self.assertEqual(list(orders_of(row, n)), sorted(made))
                    for order in all_orders(n):
                        self.assertIs(can(row, order), order in made)

    def test_the_two_orders_of_a_split(self):
        pairs = [(first, second) for first in self.few for second in self.few]
        pairs += [(stub(3), lane(1)), (lane(1), turntable()), (counter(3), counter(1)), (lane(1), full(3))]
        for first, second in pairs:
            for order in all_orders(4):
                split = parted(first, second, order)
                self.assertEqual(split is not None, can(first + second, order))
                if split is not None:
                    p, s = split
                    self.assertTrue(can(first, p) and can(second, s))
                    self.assertEqual(in_a_row(p, s), order)
                    self.assertEqual(s, in_a_row(inverse(p), order))

    def test_three_in_a_row(self):
        one, two, three = lane(1), stub(2), counter(1)
        self.assertEqual((one + two) + three, one + (two + three))
        self.assertIsNone(parting(one + two + three, stub(2)))
        self.assertIsNone(parting(lane(1) + lane(1) + lane(1) + lane(1), lane(4)))
        for n in range(6):
            self.assertEqual(list(orders_of(one + two + three, n)), list(orders_of(two, n)))

    def test_the_turned_row(self):
        for first in self.few:
            for second in self.few:
                self.assertIsNone(parting((first + second).turned(), second.turned() + first.turned()))
                self.assertIsNone(within(second, first + second) if can(first, (1,)) else None)


class TestLeftOut(WholeTest):
    def test_wagons_left_out_take_no_order_away(self):
        for yard in [*self.yards, *three_cells(97)]:
            for n in range(1, 6 if yard.cells < 4 else 5):
                for order in orders_of(yard, n):
                    for place in range(n):
                        self.assertIs(can(yard, left_out(order, place)), True)

    def test_long_orders(self):
        for yard in (stub(4), full(4), loops(), turntable(), many_lines()):
            many = count(yard, 40)
            order = order_at(yard, 40, many * 2 // 3)
            while len(order) > 0:
                self.assertIs(can(yard, order), True)
                order = left_out(order, len(order) * 3 % 7 * (len(order) - 1) // 6)

    def test_an_order_is_made_just_if_no_pattern_is_in_it(self):
        for yard in self.yards:
            for n in range(1, 6):
                for order in all_orders(n)[::3]:
                    places = in_the_way(yard, order)
                    self.assertEqual(places is None, can(yard, order))
                    if places is not None:
                        others = [place for place in range(n) if place not in places]
                        few = order
                        for place in reversed(others):
                            few = left_out(few, place)
                        self.assertIs(is_pattern(yard, few), True)
                        self.assertIn(few, patterns_of(yard, len(few)))


class TestAlike(WholeTest):
    def classes(self):
        """Yards of at most three cells, and some of four, in lists of alike ones."""
        found = []
        others = [yard.turned().turned() for yard in (loops(), turntable(), stub(3))]
        more = [Yard(4, roads=[(1, 2), (3, 0), (2, 1)], entries=[3, 1], exits=[0, 2])]
        for yard in [*small_yards(), *three_cells(131), *sample_yards(), *rich_yards(), *others, *more]:
            same = [row for row in found if parting(yard, row[0]) is None]
            self.assertLess(len(same), 2)
            if same:
                same[0].append(yard)
            else:
                found.append([yard])
        return found

    def test_alike_yards_have_the_same_counts_rules_rooms_and_patterns(self):
        rows = self.classes()
        self.assertGreater(len(rows), 15)
        self.assertGreater(max(len(row) for row in rows), 20)
        for first, *others in rows:
            for yard in others:
                self.assertEqual(rule(yard), rule(first))
                self.assertEqual(room(yard), room(first))
                self.assertEqual([count(yard, n) for n in range(10)], [count(first, n) for n in range(10)])
                self.assertEqual(count(yard, 10 ** 29, modulus=10 ** 9 + 7), count(first, 10 ** 29, modulus=10 ** 9 + 7))
                self.same_patterns(first, yard)

    def same_patterns(self, first, yard):
        (kind, lot), (other, more) = patterns(first), patterns(yard)
        self.assertEqual(kind, other)
        if kind == "all":
            self.assertEqual(lot, more)
        else:
            for head, ring, tail in (lot, more):
                for t in range(4):
                    order = order_of(head + ring * t + tail)
                    self.assertTrue(is_pattern(first, order) and is_pattern(yard, order))
        for n in range(6):
            self.assertEqual(patterns_of(first, n), patterns_of(yard, n))

    def test_yards_that_are_not_alike_differ_in_their_orders(self):
        rows = self.classes()
        for first, *_ in rows:
            for second, *_ in rows:
                order = parting(first, second)
                self.assertEqual(order is None, first is second)
                if order is not None:
                    self.assertNotEqual(can(first, order), can(second, order))
                    self.assertNotEqual(within(first, second), within(second, first))

    def test_what_patterns_tell_of_yards_within_one_another(self):
        yards = [row[0] for row in self.classes()]
        for inner in yards:
            for outer in yards:
                kind, lot = patterns(outer)
                if kind == "all":
                    # It is within just if it makes none of the patterns of the other one.
                    inside = not any(can(inner, order) for order in lot)
                    self.assertEqual(within(inner, outer) is None, inside)

    def test_cells_with_other_numbers(self):
        for yard in [*sample_yards(), *rich_yards()]:
            last = yard.cells - 1
            other = Yard(
                yard.cells, roads=[(last - x, last - y) for x, y in yard.roads],
                entries=[last - x for x in yard.entries], exits=[last - x for x in yard.exits],
            )
            self.assertIsNone(parting(yard, other))
            self.assertEqual((rule(yard), room(yard), blind(yard)), (rule(other), room(other), blind(other)))
            self.same_patterns(yard, other)


class TestOneYard(WholeTest):
    def test_all_that_tells_whether_an_order_is_made(self):
        for yard in self.yards:
            for n in range(self.most(yard) + 1):
                made = list(orders_of(yard, n))
                self.assertEqual(len(made), count(yard, n))
                self.assertEqual(made, sorted(orders_by_trying(yard, n)))
                for order in all_orders(n):
                    self.assertIs(can(yard, order), order in made)
                    self.assertEqual(fewest_moves(yard, order) is None, order not in made)
                    self.assertEqual(bar(yard, order) is None, order in made)
                    self.assertEqual(in_the_way(yard, order) is None, order in made)
                for number, order in enumerate(made):
                    self.assertEqual((order_at(yard, n, number), number_of(yard, order)), (order, number))

    def test_what_is_returned_is_what_it_is_told_to_be(self):
        for yard in self.yards:
            self.assertIs(is_blind_paper(yard, blind_paper(yard)), True)
            self.assertIs(is_within(yard, yard, within_paper(yard, yard)), True)
            for order in all_orders(self.most(yard)):
                moves, found = fewest_moves(yard, order), bar(yard, order)
                self.assertNotEqual(moves is None, found is None)
                self.assertTrue(is_run(yard, moves) if found is None else is_bar(yard, order, found))
            for k in range(1, (room(yard) or 0) + 1):
                before, ring, after = loop(yard, k)
                order = order_made(yard, before + ring * 5 + after)
                self.assertEqual(ranks_of(order)[:5], (k + 1,) * 5)
                self.assertIs(can(yard, order), True)

    def test_patterns_of_n_are_those_of_all(self):
        for yard in self.yards:
            kind, lot = patterns(yard)
            for n in range(6):
                some = patterns_of(yard, n)
                self.assertEqual(some, [order for order in all_orders(n) if is_pattern(yard, order)])
                if n <= self.most(yard):
                    self.assertEqual(some, patterns_by_trying(yard, n))
                if kind == "all":
                    self.assertEqual(some, [order for order in lot if len(order) == n])

    def test_the_room_tells_the_greatest_rank_of_orders(self):
        for yard in self.yards:
            ranks = [rank for n in range(1, 5) for order in orders_of(yard, n) for rank in ranks_of(order)]
            self.assertEqual(room(yard), max(ranks) - 1 if ranks else None)
            for n in range(1, 6):
                for order in patterns_of(yard, n):
                    self.assertLessEqual(max(ranks_of(order)), yard.cells + 1)

    def test_spare_things_left_out_change_nothing(self):
        for yard in [*small_yards()[::3], *three_cells(211), siding()]:
            rest = [yard.without_road(x, y) for x, y in spare_roads(yard)]
            rest += [yard.without_entry(x) for x in spare_entries(yard)]
            rest += [yard.without_exit(x) for x in spare_exits(yard)]
            for less in rest:
                self.assertIsNone(parting(yard, less))
                self.assertEqual((rule(yard), room(yard)), (rule(less), room(less)))
                self.assertEqual(patterns(yard), patterns(less))

    def test_a_desk_led_along_a_run(self):
        for yard in self.yards:
            for order in orders_of(yard, self.most(yard)):
                desk = Desk(yard)
                for move in fewest_moves(yard, order):
                    desk.move(move)
                    self.assertIs(desk.hopeless(), False)
                self.assertEqual((desk.out, desk.inside), (order, (0,) * yard.cells))

    def test_a_desk_led_through_a_loop(self):
        for yard in self.yards:
            for k in range(1, (room(yard) or 0) + 1):
                before, ring, after = loop(yard, k)
                desk = Desk(yard)
                for t, moves in enumerate([before, ring, ring, ring]):
                    for move in moves:
                        desk.move(move)
                    self.assertEqual((len(desk.out), max(desk.standing)), (t, k))
                for move in after:
                    desk.move(move)
                self.assertEqual(len(desk.out), 3 + k)


class TestTimes(WholeTest):
    """The greatest inputs of what is so short that no other test looks at its time."""

    def test_orders_of_forty_wagons(self):
        backwards = tuple(range(40, 0, -1))
        self.assertIs(self.quick(is_order, backwards), True)
        for call in (ranks_of, order_of, inverse, turned_about):
            self.assertEqual(self.quick(call, backwards), backwards)
        self.assertEqual(self.quick(left_out, backwards, 39), tuple(range(39, 0, -1)))
        self.assertIs(self.quick(is_order, tuple(range(20000, 0, -1))), True)

    def test_yards_of_four_cells_and_lists_of_thirty(self):
        roads = (full(4).roads * 3)[:30]
        yard = self.quick(Yard, 4, roads=roads, entries=[0, 1, 2, 3] * 7, exits=[3, 2, 1, 0] * 7)
        self.assertEqual(yard, full(4))
        self.assertEqual(self.quick(yard.turned), yard)
        self.assertEqual(self.quick(yard.dead), ())
        self.assertEqual(len(self.quick(yard.without_road, 0, 1).roads), 11)
        self.assertEqual(self.quick(yard.without_entry, 0).entries, (1, 2, 3))
        self.assertEqual(self.quick(yard.without_exit, 3).exits, (0, 1, 2))
        self.assertEqual(self.quick(yard.__add__, yard).cells, 8)


if __name__ == "__main__":
    unittest.main()
