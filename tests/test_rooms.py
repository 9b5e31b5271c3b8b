import unittest

from calls import CallTest
from cellyards.comparing import parting
from cellyards.errors import InvalidNumber, InvalidYard
from cellyards.moving import can
from cellyards.orders import order_of
from cellyards.rooms import loop, room
from cellyards.yards import Yard
from judges import all_orders, dead_cells, greatest_rank, judged_loop, played, ranks_by_words
from samples import (
    BIG, bad_yards, counter, dead_end_yards, full, lane, loops, many_lines, many_sets, mixed_yards, no_way_yards,
    orders_by_trying, rich_yards, sample_yards, siding, small_yards, stub, turntable,
)


def rank_one_above(k, t):
    """The order of t + k wagons of which the first t go past k others, and these go out in order."""
    return order_of((k + 1,) * t + (1,) * k)


class RoomTest(CallTest):
    yards = [
        *sample_yards(), *small_yards(), *mixed_yards(), *rich_yards(), *bad_yards(), *dead_end_yards(),
        *no_way_yards(), full(4), stub(4), counter(4),
    ]


class TestRoom(RoomTest):
    def test_the_greatest_rank_that_is_found_by_trying(self):
        found = {}
        for yard in self.yards:
            # Without others, a wagon with a rank and those that it passes are as many as its rank.
            rank = greatest_rank(yard, yard.cells + (1 if yard.cells < 4 else 0))
            answer = self.quick(room, yard)
            self.assertEqual(answer, None if rank == 0 else rank - 1)
            self.assertIs(type(answer), type(None) if rank == 0 else int)
            found[answer] = True
        self.assertEqual(set(found), {None, 0, 1, 2, 3})

    def test_some(self):
        for cells in (1, 2, 3, 4):
            self.assertEqual(room(lane(cells)), 0)
            self.assertEqual(room(stub(cells)), cells - 1)
            self.assertEqual(room(counter(cells)), cells - 1)
            self.assertEqual(room(yard=full(cells)), cells - 1)
        self.assertEqual(room(Yard(2, roads=[(0, 1)], entries=[0], exits=[0, 1])), 1)
        self.assertEqual(room(Yard(2, roads=[(0, 1)], entries=[0], exits=[1])), 0)

    def test_none_if_no_wagon_passes(self):
        for yard in no_way_yards():
            self.assertIsNone(room(yard))
        for yard in self.yards:
            self.assertEqual(room(yard) is None, (1,) not in orders_by_trying(yard, 1))

    def test_dead_cells_are_no_room(self):
        self.assertEqual(room(Yard(2, entries=[0, 1], exits=[0])), 0)
        self.assertEqual(room(Yard(2, roads=[(0, 1)], entries=[0], exits=[0])), 0)
        for yard in dead_end_yards():
            self.assertLess(room(yard), yard.cells - len(dead_cells(yard)))

    def test_a_yard_that_makes_2_1_makes_all_orders_without_ranks_above_2(self):
        passing = [yard for yard in self.yards if room(yard) not in (None, 0)]
        self.assertGreater(len(passing), 30)
        for yard in passing:
            for n in range(6 if yard.cells < 4 else 5):
                for order in all_orders(n):
                    if max(ranks_by_words(order), default=1) <= 2:
                        self.assertIn(order, orders_by_trying(yard, n))
                        self.assertIs(can(yard, order), True)


class TestLoop(RoomTest):
    def judge(self, yard, k):
        answer = self.quick(loop, yard, k)
        self.assertIs(type(answer), tuple)
        self.assertEqual(len(answer), 3)
        for part in answer:
            self.assertIs(type(part), tuple)
        self.assertTrue(judged_loop(yard, k, answer), (k, answer))
        return answer

    def test_just_for_each_k_up_to_the_room(self):
        for yard in self.yards:
            greatest = max(0, greatest_rank(yard, yard.cells) - 1)
            for k in range(1, greatest + 1):
                self.judge(yard, k)
            for k in range(greatest + 1, 7):
                self.assertIsNone(loop(yard, k))

    def test_at_the_room_and_one_above(self):
        for yard in (stub(4), counter(4), full(4), siding(), turntable(), loops(), many_sets(), many_lines()):
            self.judge(yard, room(yard))
            self.assertIsNone(self.quick(loop, yard, room(yard) + 1))

    def test_no_loop_where_none_waits_or_none_passes(self):
        for yard in [*no_way_yards(), lane(1), lane(4)]:
            for k in (1, 2, 3, BIG):
                self.assertIsNone(loop(yard, k))

    def test_a_great_number(self):
        for yard in self.yards:
            self.assertIsNone(self.quick(loop, yard, BIG))

    def test_long_runs(self):
        for yard in rich_yards():
            for k in range(1, room(yard) + 1):
                before, ring, after = self.judge(yard, k)
                order = played(yard, before + ring * 60 + after)
                self.assertEqual(len(order), 60 + k)
                self.assertEqual(ranks_by_words(order)[:60], (k + 1,) * 60)
                self.assertIs(can(yard, rank_one_above(k, 40 - k)), True)

    def test_one_wagon_comes_in_and_one_goes_out_each_time(self):
        yard = Yard(3, roads=[(0, 1), (1, 2)], entries=[0], exits=[1, 2])
        before, ring, after = self.judge(yard, 1)
        self.assertEqual([move[0] for move in ring].count("in"), 1)
        self.assertEqual([move[0] for move in ring].count("out"), 1)
        self.assertNotIn("out", [move[0] for move in before])
        self.assertEqual([move[0] for move in before].count("in"), 1)
        self.assertNotIn("in", [move[0] for move in after])

    def test_the_same_again_and_by_name(self):
        for yard in rich_yards():
            for k in (1, 2, 3):
                self.assertEqual(loop(yard, k), loop(k=k, yard=yard))

    def test_the_judge_itself(self):
        swap = ((("in", 0), ("road", 0, 1)), (("in", 0), ("out", 0)), (("road", 1, 0), ("out", 0)))
        self.assertTrue(judged_loop(stub(2), 1, swap))
        self.assertFalse(judged_loop(stub(2), 2, swap))
        before, ring, after = swap
        self.assertFalse(judged_loop(stub(2), 1, (before, ring, after[:-1])))
        self.assertFalse(judged_loop(stub(2), 1, (before, ring * 2, after)))
        self.assertFalse(judged_loop(stub(2), 1, (before, (), after)))
        self.assertFalse(judged_loop(counter(2), 1, swap))

    def test_wrong_arguments(self):
        for k in (0, -1, -BIG, True, False, None, "1", (1,), [1], {}, Yard(1)):
            self.fails(InvalidNumber, "thing", k, loop, stub(2), k)
            self.fails(InvalidNumber, "thing", k, loop, Yard(1), k=k)
            self.fails(InvalidYard, "thing", None, loop, None, k)
        self.fails(InvalidYard, "thing", (), room, ())


class TestAlike(RoomTest):
    def test_rooms_of_alike_yards_are_equal(self):
        yards = small_yards()
        for yard in yards:
            for other in yards:
                if parting(yard, other) is None:
                    self.assertEqual(room(yard), room(other))


if __name__ == "__main__":
    unittest.main()
