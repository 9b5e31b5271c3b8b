import itertools
import unittest

from calls import CallTest, bent
from cellyards.errors import InvalidMove
from cellyards.moving import bar, can, fewest_moves, is_bar, is_run, order_made
from cellyards.yards import Yard
from judges import all_orders, all_standings, dead_cells, judged_bar, lets_out, one_move, played, ranks_by_words
from samples import (
    THINGS, counter, dead_end_yards, full, lane, loops, many_lines, many_sets, mixed_yards, moves_from,
    orders_by_trying, sample_yards, siding, small_yards, stub, turntable,
)

STRANGE_MOVES = [
    ("in", True), ("in", False), ("out", True), ("out", False), ("road", False, 1), ("road", 0, True),
    ["in", 0], ["out", 0], ["road", 0, 1], ("in",), ("out",), ("road",), ("in", 0, 0), ("in", 0, 1),
    ("out", 0, 1), ("road", 0), ("road", (0, 1)), ("road", 0, 1, 0), ("IN", 0), ("", 0), (0, 0),
    (None, 0), (True, 0), ("in", -1), ("in", 9), ("out", -1), ("road", 0, 0), ("road", -1, 0),
    ("in", "0"), ("in", None), ("in", (0,)), ("in", [0]), ("road", [0], [1]), ("road", 0, None),
    "in", 0, (), [], {}, None, Yard(1), (Yard(1), 0), ("in", Yard(1)), (("in", 0),), ("in", {"a": 0}),
]
DEAD_ENDS = dead_end_yards()


def moves_of(yard):
    """All moves between cells of a yard, also those that it does not have."""
    cells = range(yard.cells)
    ends = [(name, x) for name in ("in", "out") for x in cells]
    return ends + [("road", x, y) for x in cells for y in cells]


def fewest_by_trying(yard, n):
    """For each order of n wagons the number of moves of its shortest runs."""
    found = {}
    states = {((0,) * yard.cells, 0, ())}
    seen = set(states)
    for many in itertools.count():
        for _, come, gone in states:
            if come == len(gone) == n:
                found.setdefault(gone, many)
        states = {later for state in states for later in moves_from(yard, state, n)} - seen
        seen |= states
        if not states:
            return found


class TestIsRun(CallTest):
    def test_all_short_rows_of_moves(self):
        yards = [lane(2), stub(2), counter(2), Yard(2, roads=[(1, 0)], entries=[1], exits=[0, 1]), Yard(1, entries=[0])]
        for yard in yards:
            for many in range(5):
                for row in itertools.product(moves_of(yard), repeat=many):
                    self.assertIs(is_run(yard, row), played(yard, row) is not None, row)

    def test_some_longer_runs(self):
        turn = [("in", 0), ("road", 0, 1), ("road", 1, 0), ("out", 0)]
        self.assertIs(is_run(stub(2), turn * 3), True)
        self.assertIs(is_run(yard=stub(2), thing=turn[:2] + turn[:1]), False)
        swap = [("in", 0), ("road", 0, 1), ("in", 0), ("out", 0), ("road", 1, 0), ("out", 0)]
        self.assertIs(is_run(stub(2), tuple(swap)), True)
        self.assertIs(is_run(lane(2), swap), False)
        self.assertIs(is_run(stub(2), swap[:-1]), False)

    def test_no_moves_are_a_run_of_each_yard(self):
        for yard in sample_yards() + small_yards():
            self.assertIs(is_run(yard, []), True)
            self.assertIs(is_run(yard, ()), True)

    def test_roads_and_cells_told_twice(self):
        yard = Yard(2, roads=[(0, 1), (0, 1)], entries=[0, 0], exits=[1, 1])
        self.assertIs(is_run(yard, [("in", 0), ("road", 0, 1), ("out", 1)]), True)
        self.assertIs(is_run(yard, [("in", 0), ("in", 0), ("road", 0, 1), ("out", 1)]), False)

    def test_wagons_that_stay_inside_are_no_run(self):
        for yard in DEAD_ENDS:
            for row in itertools.product(moves_of(yard), repeat=3):
                self.assertIs(is_run(yard, row), played(yard, row) is not None)

    def test_strange_moves(self):
        run = [("in", 0), ("road", 0, 1), ("in", 0), ("out", 0), ("road", 1, 0), ("out", 0)]
        for at in range(len(run)):
            for move in STRANGE_MOVES:
                for row in (run[:at] + [move] + run[at + 1:], run[:at] + [move] + run[at:]):
                    expected = played(stub(2), row) is not None
                    self.assertIs(is_run(stub(2), row), expected, row)
                    self.assertIs(is_run(stub(2), tuple(row)), expected, row)
        for move in STRANGE_MOVES:
            self.assertIs(is_run(counter(2), [move]), False)

    def test_anything(self):
        for yard in (stub(2), Yard(1)):
            for thing in THINGS:
                self.assertIs(is_run(yard, thing), thing in ([], ()))
                self.assertIs(is_run(yard, [thing]), False)
                self.assertIs(is_run(yard, [("in", thing), ("out", thing)]), yard == stub(2) and thing == 0
                              and type(thing) is int)

    def test_four_hundred_moves_and_more(self):
        turn = [("in", 0), ("road", 0, 1), ("road", 1, 0), ("out", 0)]
        self.assertIs(self.quick(is_run, stub(2), turn * 100), True)
        self.assertIs(self.quick(is_run, stub(2), turn * 100 + turn[:1]), False)
        self.assertEqual(self.quick(order_made, stub(2), turn * 1000), tuple(range(1, 1001)))


class TestOrderMade(CallTest):
    def test_all_short_rows_of_moves(self):
        for yard in (lane(2), stub(2), counter(2)):
            for row in itertools.product(moves_of(yard), repeat=4):
                order = played(yard, row)
                if order is None:
                    self.fails(InvalidMove, "thing", row, order_made, yard, row)
                else:
                    self.assertEqual(order_made(yard, row), order)
                    self.assertEqual(order_made(yard, list(row)), order)
                    self.order_tuple(order_made(yard, row))

    def test_no_moves(self):
        for yard in sample_yards():
            self.assertEqual(order_made(yard, []), ())
            self.assertEqual(order_made(yard, ()), ())

    def test_each_order_of_few_wagons(self):
        for yard in sample_yards():
            for n in range(5):
                for order in orders_by_trying(yard, n):
                    moves = fewest_moves(yard, order)
                    self.assertEqual(order_made(yard, moves), order)
                    self.assertEqual(order_made(moves=tuple(moves), yard=yard), order)

    def test_what_is_no_run(self):
        for thing in [*THINGS, [("in", 0)], [("in", 0), ("out", 1)], [("in", True), ("out", 0)]]:
            if thing not in ([], ()):
                self.fails(InvalidMove, "thing", thing, order_made, stub(2), thing)


class TestFewestMoves(CallTest):
    def test_as_few_as_can_be(self):
        for yard in [*sample_yards(), *small_yards(), *mixed_yards()]:
            for n in range(4 if yard.cells < 4 else 3):
                fewest = fewest_by_trying(yard, n)
                for order in all_orders(n):
                    self.judge(yard, order, fewest.get(order))

    def judge(self, yard, order, fewest):
        moves = fewest_moves(yard, order)
        if fewest is None:
            self.assertIsNone(moves)
        else:
            self.assertIs(type(moves), list)
            self.assertEqual(played(yard, moves), order)
            self.assertEqual(len(moves), fewest)
            self.assertIs(is_run(yard, moves), True)

    def test_as_few_as_can_be_with_more_wagons(self):
        for yard in (stub(3), turntable(), siding(), loops(), many_sets()):
            for n in (4, 5):
                fewest = fewest_by_trying(yard, n)
                for order in all_orders(n):
                    self.judge(yard, order, fewest.get(order))

    def test_no_wagons_no_moves_and_a_new_list(self):
        for yard in sample_yards():
            self.assertEqual(fewest_moves(yard, ()), [])
        first = fewest_moves(stub(2), (2, 1))
        again = fewest_moves(stub(2), (2, 1))
        self.assertEqual(first, again)
        self.assertIsNot(first, again)
        first.clear()
        self.assertEqual(fewest_moves(stub(2), (2, 1)), again)

    def test_what_is_returned_and_bent(self):
        for yard, order in [(stub(3), (3, 1, 2)), (stub(3), (2, 3, 1)), (siding(), (2, 1)), (loops(), (2, 3, 1))]:
            moves = fewest_moves(yard, order)
            for row in bent(moves, [*moves_of(yard), *STRANGE_MOVES]) if moves else []:
                self.assertIs(is_run(yard, row), played(yard, row) is not None, row)

    def test_forty_wagons(self):
        forwards, backwards = tuple(range(1, 41)), tuple(range(40, 0, -1))
        moves = self.quick(fewest_moves, lane(4), forwards)
        self.assertEqual(len(moves), 40 * 5)
        self.assertEqual(played(lane(4), moves), forwards)
        self.assertIsNone(self.quick(fewest_moves, lane(4), backwards))
        fours = tuple(4 * k + wagon for k in range(10) for wagon in (4, 3, 2, 1))
        moves = self.quick(fewest_moves, stub(4), fours)
        # Three, two and one of four wagons make way for those behind them, and come back.
        self.assertEqual(len(moves), 80 + 10 * 2 * (3 + 2 + 1))
        for yard in (full(4), many_sets(), many_lines()):
            moves = self.quick(fewest_moves, yard, (2, 1) + forwards[2:])
            self.assertEqual(played(yard, moves), (2, 1) + forwards[2:])
        for k in range(10):
            self.assertEqual(len(fewest_moves(counter(4), fours[:4 * k])), 8 * k)


class TestCan(CallTest):
    def test_just_the_orders_that_are_made(self):
        for yard in [*sample_yards(), *small_yards(), *mixed_yards()]:
            for n in range(5 if yard.cells < 4 else 4):
                made = orders_by_trying(yard, n)
                for order in all_orders(n):
                    self.assertIs(can(yard, order), order in made, (order, yard.roads))

    def test_ranks_above_the_number_of_cells(self):
        self.assertIs(can(full(2), (3, 1, 2)), False)
        self.assertIs(can(full(3), (3, 1, 2)), True)
        self.assertIs(can(Yard(1, entries=[0], exits=[0]), (2, 1)), False)

    def test_yards_without_entries_or_exits(self):
        for yard in (Yard(1), Yard(1, entries=[0]), Yard(1, exits=[0]), Yard(2, roads=[(0, 1)], entries=[0])):
            self.assertIs(can(yard, ()), True)
            self.assertIs(can(yard, (1,)), False)
            self.assertIs(can(yard, (1, 2)), False)

    def test_forty_wagons(self):
        forwards, backwards = tuple(range(1, 41)), tuple(range(40, 0, -1))
        for yard in (lane(4), stub(4), full(4), many_sets(), many_lines()):
            self.assertIs(self.quick(can, yard, forwards), True)
            self.assertIs(self.quick(can, yard, backwards), False)
        self.assertIs(can(counter(4), forwards[1:] + (1,)), True)
        self.assertIs(can(counter(4), (2, 3, 4, 6) + (5,) + tuple(range(7, 41)) + (1,)), True)
        self.assertIs(can(stub(4), forwards[1:] + (1,)), True)
        self.assertIs(can(lane(4), forwards[1:] + (1,)), False)


class TestBar(CallTest):
    def test_just_the_orders_that_are_not_made_have_one(self):
        for yard in [*sample_yards(), *small_yards(), *DEAD_ENDS, *mixed_yards(197, 60013)]:
            for n in range(5 if yard.cells < 4 else 4):
                made = orders_by_trying(yard, n)
                for order in all_orders(n):
                    self.judge(yard, order, order in made)

    def judge(self, yard, order, made):
        found = bar(yard, order)
        if made:
            self.assertIsNone(found)
        else:
            self.assertTrue(judged_bar(yard, order, found), (order, found))
            self.assertIs(is_bar(yard, order, found), True)

    def test_lists_that_are_new_and_different(self):
        found = bar(stub(2), (3, 1, 2))
        again = bar(stub(2), (3, 1, 2))
        self.assertEqual(found, again)
        rows = [found, again, *found, *again]
        self.assertEqual(len({id(row) for row in rows}), len(rows))
        for row in found:
            row.clear()
        found.clear()
        self.assertEqual(bar(stub(2), (3, 1, 2)), again)

    def test_a_bar_of_one_order_is_judged_for_each_other_one(self):
        for yard in (stub(2), lane(2), siding(), turntable(), DEAD_ENDS[2]):
            orders = [order for n in range(5) for order in all_orders(n)]
            for order in orders[:15]:
                found = bar(yard, order)
                for other in orders if found else []:
                    self.assertIs(is_bar(yard, other, found), judged_bar(yard, other, found))

    def test_bent_bars(self):
        strange = [(0,), (0, 0, 0), [0, 0], (True, 0), (0, False), (1, 1), (2, 0), (-1, 0), ("1", 0), 0, None]
        for yard, order in [(stub(2), (3, 1, 2)), (lane(2), (2, 1)), (DEAD_ENDS[0], (2, 1)), (counter(2), (3, 2, 1))]:
            found = bar(yard, order)
            things = list(bent(found, [[], [(0, 0)], all_standings(2), (), ((0, 0),), None, 0, {}]))
            for at, row in enumerate(found):
                for other in bent(row, [*all_standings(2), *strange]):
                    things.append(found[:at] + [other] + found[at + 1:])
            for thing in things:
                self.assertIs(is_bar(yard, order, thing), judged_bar(yard, order, thing), thing)
            for kind in (tuple, list):
                rows = [tuple(row) for row in found]
                self.assertIs(is_bar(yard, order, kind(rows)), False)
            self.assertIs(is_bar(yard, order, tuple(found)), False)

    def test_true_is_no_rank(self):
        yard = counter(1)
        self.assertIs(is_bar(yard, (2, 1), [[(0,), (1,)], []]), True)
        self.assertIs(is_bar(yard, (2, 1), [[(0,), (True,)], []]), False)
        self.assertIs(is_bar(yard, (2, 1), [[(False,), (1,)], []]), False)

    def test_more_than_must_be_may_stand_in_a_bar(self):
        # Nothing comes in, so the standings with wagons are never reached.
        yard = Yard(2, roads=[(0, 1)], exits=[1])
        self.assertIs(is_bar(yard, (1,), [[(0, 0)], []]), True)
        self.assertIs(is_bar(yard, (1,), [[(0, 0), (0, 0)], []]), True)
        self.assertIs(is_bar(yard, (2, 1), [[(0, 0), (0, 1)], []]), True)
        self.assertIs(is_bar(yard, (1,), [[(0, 0), (0, 1)], []]), False)
        self.assertIs(is_bar(yard, (1, 2), [[(0, 0), (0, 1)], [(0, 0)], []]), True)
        self.assertIs(is_bar(yard, (1, 2), [[(0, 0), (1, 2), (0, 1)], [(0, 0)], []]), True)
        self.assertIs(is_bar(yard, (1, 2), [[(0, 0), (1, 0)], [(0, 0)], []]), False)

    def test_rows_before_the_last_one_may_be_empty_and_there_are_at_most_one_more_than_wagons(self):
        yard = Yard(1, entries=[0])
        rows = [[(0,), (1,)]]
        for many in range(1, 6):
            self.assertIs(is_bar(yard, (1, 2, 3), rows + [[]] * many), many <= 3)
        self.assertIs(is_bar(yard, (1, 2, 3), rows), False)
        self.assertIs(is_bar(yard, (1, 2, 3), rows + [[], [(0,), (1,)]]), False)
        self.assertIs(is_bar(yard, (1, 2, 3), rows + [[], [(0,), (1,)], []]), True)
        self.assertIs(is_bar(yard, (1, 2, 3), [[], []]), False)

    def test_moves_into_dead_cells_count(self):
        yard = Yard(2, entries=[1], exits=[0])
        self.assertEqual(dead_cells(yard), {1})
        self.assertIs(is_bar(yard, (1,), [[(0, 0)], []]), False)
        self.assertIs(is_bar(yard, (1,), [[(0, 0), (0, 1)], []]), True)

    def test_no_order_of_no_wagons_has_one(self):
        for yard in sample_yards():
            empty = (0,) * yard.cells
            self.assertIsNone(bar(yard, ()))
            for thing in ([], [[]], [[empty]], [[empty], []], [all_standings(yard.cells), []]):
                self.assertIs(is_bar(yard, (), thing), False)

    def test_anything(self):
        for thing in [*THINGS, [THINGS, []], [[(0, 0)], THINGS]]:
            self.assertIs(is_bar(stub(2), (3, 1, 2), thing), False)
            self.assertIs(is_bar(Yard(1), (1,), [thing, []]), False)
            self.assertIs(is_bar(Yard(1), (1,), [[(0,), thing], []]), thing == (1,))
            self.assertIs(is_bar(Yard(1), (1,), [[(0,)], thing]), thing == [])
            self.assertIs(is_bar(Yard(1), (1,), [[(0,), (thing,)], []]), type(thing) is int and thing in (0, 1))

    def test_what_the_judge_itself_says_of_a_bar(self):
        yard, order = lane(2), (2, 1)
        rows = [list(all_standings(2)), []]
        self.assertEqual(lets_out(yard, (2, 1)), {1: (1, 0)})
        self.assertEqual(lets_out(yard, (1, 2)), {2: (1, 0)})
        # The standing (1, 2) is never reached here, but it lets the rank 2 out.
        self.assertFalse(judged_bar(yard, order, rows))
        rows[0].remove((1, 2))
        self.assertTrue(judged_bar(yard, order, rows))
        self.assertEqual(one_move(yard, (1, 0)), [(0, 1)])
        self.assertEqual(ranks_by_words((3, 1, 2)), (3, 1, 1))

    def test_twelve_wagons(self):
        orders = [tuple(range(12, 0, -1)), (5, 6, 7, 8, 9, 10, 11, 12, 4, 3, 2, 1), tuple(range(1, 8)) + (12, 11, 10, 9, 8)]
        for yard in (full(4), many_sets(), many_lines(), stub(4), lane(4), siding()):
            for order in orders:
                found = self.quick(bar, yard, order)
                self.assertTrue(judged_bar(yard, order, found))
                self.assertIs(self.quick(is_bar, yard, order, found), True)
                self.assertIs(self.quick(is_bar, yard, order, [row * 20 for row in found]), True)
                self.assertIs(self.quick(is_bar, yard, order, found[:-1]), False)


if __name__ == "__main__":
    unittest.main()
