import itertools
import unittest

from calls import CallTest
from cellyards.errors import InvalidCells, InvalidNumber, InvalidRoads, NoCell, NoRoad
from cellyards.orders import turned_about
from cellyards.yards import Yard
from samples import (
    BIG, INTEGERS, NOT_INTEGERS, NOT_LISTS, THINGS,
    counter, lane, orders_by_trying, parts_of, reached_from, sample_yards, siding, stub, turntable,
)


class YardTest(CallTest):
    def parts(self, yard):
        return parts_of(yard)


class TestMaking(YardTest):
    def test_properties(self):
        yard = Yard(3, roads=[(2, 0), (0, 2), (0, 1)], entries=[2, 0], exits=[1])
        self.assertEqual(self.parts(yard), (3, ((0, 1), (0, 2), (2, 0)), (0, 2), (1,)))

    def test_kinds_of_properties(self):
        for handed in ([(1, 0)], ((1, 0),)):
            yard = Yard(2, roads=handed, entries=[1], exits=(0,))
            self.assertEqual([type(part) for part in self.parts(yard)], [int, tuple, tuple, tuple])
            self.assertIs(type(yard.roads[0]), tuple)

    def test_without_roads_entries_and_exits(self):
        self.assertEqual(self.parts(Yard(1)), (1, (), (), ()))
        self.assertEqual(self.parts(Yard(4)), (4, (), (), ()))
        self.assertEqual(self.parts(Yard(2, exits=[1])), (2, (), (), (1,)))
        self.assertEqual(self.parts(Yard(2, entries=[1])), (2, (), (1,), ()))
        self.assertEqual(self.parts(Yard(2, roads=[(1, 0)])), (2, ((1, 0),), (), ()))
        self.assertEqual(self.parts(Yard(2, roads=[], entries=[], exits=[])), (2, (), (), ()))
        self.assertEqual(self.parts(Yard(2, roads=(), entries=(), exits=())), (2, (), (), ()))

    def test_what_stands_twice_counts_once_in_any_order(self):
        roads = [(0, 1), (1, 2), (0, 1), (2, 0)]
        for turn in itertools.permutations(roads):
            yard = Yard(3, roads=list(turn), entries=[2, 0, 2], exits=[1, 1])
            self.assertEqual(self.parts(yard), (3, ((0, 1), (1, 2), (2, 0)), (0, 2), (1,)))

    def test_rising_also_beyond_small_numbers(self):
        yard = Yard(9, roads=[(8, 7), (7, 8), (0, 8)], entries=[8, 0, 7], exits=[7, 8, 1])
        self.assertEqual(self.parts(yard), (9, ((0, 8), (7, 8), (8, 7)), (0, 7, 8), (1, 7, 8)))
        row = counter(3) + counter(3) + counter(3)
        self.assertEqual((row.entries, row.exits), ((0, 1, 2), (6, 7, 8)))
        self.assertEqual((row.turned().entries, row.turned().exits), ((6, 7, 8), (0, 1, 2)))

    def test_tuples_where_lists_are_wanted(self):
        by_lists = Yard(3, roads=[(2, 1), (0, 1)], entries=[2, 0], exits=[1, 0])
        by_tuples = Yard(3, roads=((2, 1), (0, 1)), entries=(2, 0), exits=(1, 0))
        self.assertEqual(self.parts(by_lists), self.parts(by_tuples))

    def test_arguments_by_name(self):
        yard = Yard(exits=[1], entries=[0], roads=[(0, 1)], cells=2)
        self.assertEqual(self.parts(yard), (2, ((0, 1),), (0,), (1,)))

    def test_all_but_cells_only_by_name(self):
        with self.assertRaises(TypeError):
            Yard(2, [(0, 1)])

    def test_arguments_are_not_changed_and_later_changes_have_no_effect(self):
        roads, entries, exits = [(1, 0), (0, 1), (1, 0)], [1, 0, 1], [1, 1]
        yard = Yard(2, roads=roads, entries=entries, exits=exits)
        self.assertEqual((roads, entries, exits), ([(1, 0), (0, 1), (1, 0)], [1, 0, 1], [1, 1]))
        roads.append((0, 1))
        roads[0] = (0, 1)
        entries.clear()
        exits.append(0)
        self.assertEqual(self.parts(yard), (2, ((0, 1), (1, 0)), (0, 1), (1,)))

    def test_as_many_as_the_limits_allow(self):
        roads = [(x, y) for x in range(4) for y in range(4) if x != y] * 3
        yard = Yard(4, roads=roads[:30], entries=[3, 2, 1, 0] * 7, exits=[0, 3] * 15)
        self.assertEqual(len(yard.roads), 12)
        self.assertEqual((yard.entries, yard.exits), ((0, 1, 2, 3), (0, 3)))

    def test_beyond_the_limits_no_error_is_raised(self):
        roads = [(x, x + 1) for x in range(99)]
        yard = Yard(100, roads=roads * 2, entries=list(range(100)), exits=[99])
        self.assertEqual(self.parts(yard), (100, tuple(roads), tuple(range(100)), (99,)))
        self.assertEqual(Yard(BIG, roads=[(BIG - 1, 0)]).turned().roads, ((0, BIG - 1),))


class TestWrongArguments(YardTest):
    def test_cells(self):
        for thing in [*NOT_INTEGERS, 0, -1, -BIG]:
            self.fails(InvalidNumber, "thing", thing, Yard, thing)
            self.fails(InvalidNumber, "thing", thing, Yard, cells=thing)

    def test_roads_that_are_no_list(self):
        for thing in NOT_LISTS:
            self.fails(InvalidRoads, "place", None, Yard, 2, roads=thing)

    def test_items_that_are_no_roads(self):
        wrong = [
            (0, 0), (1, 1), (0, 2), (2, 0), (-1, 0), (0, -1), (True, 0), (0, True), (False, 1),
            (1, False), (0,), (0, 1, 0), ("0", 1), (0, None), (0, (1,)), (0, [1]), [0, 1],
            ((0, 1),), (BIG, 0), (Yard(1), 1),
        ]
        for item in [*wrong, *THINGS]:
            self.fails(InvalidRoads, "place", 0, Yard, 2, roads=[item])
            self.fails(InvalidRoads, "place", 0, Yard, 2, roads=(item,))
            self.fails(InvalidRoads, "place", 2, Yard, 2, roads=[(0, 1), (0, 1), item])
            self.fails(InvalidRoads, "place", 1, Yard, 2, roads=((1, 0), item, (0, 1), (0, 0)))

    def test_a_yard_of_one_cell_has_no_roads(self):
        for road in itertools.product((-1, 0, 1), repeat=2):
            self.fails(InvalidRoads, "place", 0, Yard, 1, roads=[road])

    def test_entries_and_exits_that_are_no_list(self):
        for thing in NOT_LISTS:
            self.fails(InvalidCells, "place", None, Yard, 2, entries=thing)
            self.fails(InvalidCells, "place", None, Yard, 2, exits=thing)

    def test_items_that_are_no_cells(self):
        for item in [*NOT_INTEGERS, -1, 2, BIG, -BIG]:
            for name in ("entries", "exits"):
                self.fails(InvalidCells, "place", 0, Yard, 2, **{name: [item]})
                self.fails(InvalidCells, "place", 0, Yard, 2, **{name: (item, 0)})
                self.fails(InvalidCells, "place", 3, Yard, 2, **{name: [0, 1, 1, item, item]})

    def test_which_error_comes_first(self):
        self.fails(InvalidNumber, "thing", 0, Yard, 0, roads=None, entries=None, exits=None)
        self.fails(InvalidNumber, "thing", True, Yard, True, roads=[()], entries=[()], exits=[()])
        self.fails(InvalidRoads, "place", None, Yard, 1, roads=None, entries=None, exits=None)
        self.fails(InvalidRoads, "place", 1, Yard, 2, exits=5, entries=5, roads=[(0, 1), 5])
        # The lists are of different lengths to the first wrong item, so the place tells which it is.
        self.fails(InvalidCells, "place", 1, Yard, 2, exits=[0, 0, 2], entries=[0, 2])
        self.fails(InvalidCells, "place", 1, Yard, 2, exits=None, entries=[0, 2])
        self.fails(InvalidCells, "place", None, Yard, 2, exits=[2], entries=None)
        self.fails(InvalidCells, "place", 0, Yard, 2, exits=[2], entries=[0])

    def test_the_same_wrong_call_again(self):
        roads = [(0, 1), (0, 0)]
        for _ in range(2):
            self.fails(InvalidRoads, "place", 1, Yard, 2, roads=roads)
        self.assertEqual(roads, [(0, 1), (0, 0)])


class TestEqual(YardTest):
    def test_equal(self):
        one = Yard(2, roads=[(0, 1), (1, 0)], entries=[0, 1], exits=[1, 0])
        two = Yard(2, roads=((1, 0), (0, 1), (1, 0)), entries=(1, 0, 1), exits=[0, 1])
        self.assertIs(one == two, True)
        self.assertIs(one != two, False)
        self.assertIs(one == one, True)

    def test_each_property_counts(self):
        parts = {"roads": [(0, 1)], "entries": [0], "exits": [1]}
        yard = Yard(2, **parts)
        others = [
            Yard(3, **parts),
            Yard(2, **{**parts, "roads": []}), Yard(2, **{**parts, "roads": [(1, 0)]}),
            Yard(2, **{**parts, "roads": [(0, 1), (1, 0)]}),
            Yard(2, **{**parts, "entries": []}), Yard(2, **{**parts, "entries": [1]}),
            Yard(2, **{**parts, "exits": []}), Yard(2, **{**parts, "exits": [0, 1]}),
        ]
        for other in others:
            self.assertIs(yard == other, False)
            self.assertIs(other == yard, False)
            self.assertIs(yard != other, True)

    def test_anything(self):
        for yard in (Yard(1), stub(2)):
            for thing in THINGS:
                if thing == Yard(1) and yard == Yard(1):
                    continue
                self.assertIs(yard == thing, False)
                self.assertIs(thing == yard, False)
                self.assertIs(yard != thing, True)

    def test_true_is_not_one_cell(self):
        self.assertIs(Yard(1) == 1, False)
        self.assertIs(Yard(1) == (1, (), (), ()), False)


class TestTurned(YardTest):
    def test_parts(self):
        yard = Yard(3, roads=[(0, 1), (0, 2), (2, 1)], entries=[0, 1], exits=[2])
        turned = (3, ((1, 0), (1, 2), (2, 0)), (2,), (0, 1))
        self.assertEqual(self.parts(yard.turned()), turned)
        self.assertEqual(self.parts(Yard(2).turned()), (2, (), (), ()))

    def test_twice_is_the_yard_and_nothing_is_changed(self):
        for yard in sample_yards():
            before = self.parts(yard)
            self.assertEqual(yard.turned().turned(), yard)
            self.assertEqual(yard.turned(), yard.turned())
            self.assertEqual(self.parts(yard), before)

    def test_it_makes_the_orders_turned_about(self):
        for yard in sample_yards():
            for n in range(5):
                turned = {turned_about(order) for order in orders_by_trying(yard, n)}
                self.assertEqual(orders_by_trying(yard.turned(), n), turned)


class TestInARow(YardTest):
    def test_parts(self):
        first = Yard(2, roads=[(0, 1)], entries=[0], exits=[0, 1])
        second = Yard(3, roads=[(0, 2), (2, 1)], entries=[0, 1], exits=[2])
        roads = ((0, 1), (0, 2), (0, 3), (1, 2), (1, 3), (2, 4), (4, 3))
        self.assertEqual(self.parts(first + second), (5, roads, (0,), (4,)))
        roads = ((0, 2), (2, 1), (2, 3), (3, 4))
        self.assertEqual(self.parts(second + first), (5, roads, (0, 1), (3, 4)))

    def test_yards_without_entries_or_exits(self):
        self.assertEqual(self.parts(Yard(1) + Yard(2)), (3, (), (), ()))
        self.assertEqual(self.parts(Yard(1, entries=[0]) + Yard(1, exits=[0])), (2, (), (0,), (1,)))
        self.assertEqual(self.parts(Yard(1, exits=[0]) + Yard(1, entries=[0])), (2, ((0, 1),), (), ()))

    def test_nothing_is_changed_and_the_same_again(self):
        first, second = turntable(), siding()
        before = self.parts(first), self.parts(second)
        row = first + second
        self.assertEqual(first + second, row)
        self.assertEqual((self.parts(first), self.parts(second)), before)
        self.assertEqual(self.parts(first + first)[0], 6)
        self.assertEqual((self.parts(first), self.parts(second)), before)

    def test_four_together_and_handed_in_again(self):
        roads = list(itertools.permutations(range(4), 2))
        yard = Yard(4, roads=roads, entries=[0, 1, 2, 3], exits=[0, 1, 2, 3])
        row = yard + yard + yard + yard
        self.assertEqual(row, yard + (yard + (yard + yard)))
        self.assertEqual((row.cells, len(row.roads)), (16, 4 * 12 + 3 * 16))
        again = Yard(row.cells, roads=row.roads, entries=row.entries, exits=list(row.exits))
        self.assertEqual(again, row)
        self.assertEqual(row.dead(), ())

    def test_it_makes_the_orders_of_one_after_the_other(self):
        yards = [lane(1), lane(2), stub(2), counter(2), Yard(2, roads=[(0, 1)], entries=[0, 1], exits=[1])]
        for first in yards:
            for second in yards:
                for n in range(4):
                    made = {
                        tuple([p[wagon - 1] for wagon in s])
                        for p in orders_by_trying(first, n) for s in orders_by_trying(second, n)
                    }
                    self.assertEqual(orders_by_trying(first + second, n), made)

    def test_anything_but_a_yard_on_the_other_side(self):
        for thing in THINGS:
            if isinstance(thing, Yard):
                continue
            with self.assertRaises(TypeError):
                stub(2) + thing
            with self.assertRaises(TypeError):
                thing + stub(2)


class TestDead(YardTest):
    def test_no_exit(self):
        self.assertEqual(Yard(1).dead(), (0,))
        self.assertEqual(Yard(3, roads=[(0, 1), (1, 2), (2, 0)], entries=[0]).dead(), (0, 1, 2))

    def test_an_exit_is_not_dead(self):
        self.assertEqual(Yard(1, exits=[0]).dead(), ())
        self.assertEqual(Yard(3, roads=[(0, 1)], exits=[0, 2]).dead(), (1,))

    def test_rows_of_roads(self):
        self.assertEqual(lane(4).dead(), ())
        self.assertEqual(lane(4).turned().dead(), ())
        # The roads lead away from the exit here.
        self.assertEqual(Yard(4, roads=[(0, 1), (1, 2), (2, 3)], exits=[0]).dead(), (1, 2, 3))
        self.assertEqual(Yard(4, roads=[(3, 2), (2, 1), (1, 0)], exits=[0]).dead(), ())
        self.assertEqual(Yard(4, roads=[(3, 1), (1, 0), (0, 3)], exits=[0]).dead(), (2,))
        self.assertEqual(siding().dead(), (3,))

    def test_a_kind_and_the_same_again(self):
        yard = siding()
        before = self.parts(yard)
        self.assertIs(type(yard.dead()), tuple)
        self.assertEqual(yard.dead(), yard.dead())
        self.assertEqual(self.parts(yard), before)

    def test_just_from_dead_cells_no_wagon_goes_out(self):
        for pairs in itertools.product((0, 1), repeat=6):
            ways = itertools.permutations(range(3), 2)
            roads = [way for way, kept in zip(ways, pairs) if kept]
            for exits in ([], [0], [1], [0, 2]):
                yard = Yard(3, roads=roads, exits=exits)
                dead = [cell for cell in range(3) if not self.goes_out(yard, cell)]
                self.assertEqual(yard.dead(), tuple(dead))

    def goes_out(self, yard, cell):
        cells = tuple([1 if cell == x else 0 for x in range(yard.cells)])
        return any(gone for _, _, gone in reached_from(yard, [(cells, 1, ())], 1))

    def test_from_all_other_standings_all_wagons_go_out(self):
        for yard in sample_yards():
            for cells in itertools.product((0, 1), repeat=yard.cells):
                if not any(cells[x] for x in yard.dead()):
                    found = reached_from(yard, [(cells, 1, ())], 1)
                    self.assertTrue(any(sum(inside) == 0 for inside, _, _ in found))


class TestWithout(YardTest):
    def setUp(self):
        self.yard = Yard(3, roads=[(0, 1), (1, 0), (1, 2)], entries=[0, 1], exits=[1, 2])

    def test_without_road(self):
        yard = self.yard.without_road(1, 0)
        self.assertEqual(self.parts(yard), (3, ((0, 1), (1, 2)), (0, 1), (1, 2)))
        yard = self.yard.without_road(y=1, x=0)
        self.assertEqual(self.parts(yard), (3, ((1, 0), (1, 2)), (0, 1), (1, 2)))
        self.assertEqual(lane(2).without_road(0, 1).roads, ())

    def test_without_entry(self):
        yard = self.yard.without_entry(1)
        self.assertEqual(self.parts(yard), (3, ((0, 1), (1, 0), (1, 2)), (0,), (1, 2)))
        self.assertEqual(self.yard.without_entry(x=0).entries, (1,))
        self.assertEqual(lane(2).without_entry(0).entries, ())

    def test_without_exit(self):
        yard = self.yard.without_exit(1)
        self.assertEqual(self.parts(yard), (3, ((0, 1), (1, 0), (1, 2)), (0, 1), (2,)))
        self.assertEqual(self.yard.without_exit(x=2).exits, (1,))
        self.assertEqual(lane(2).without_exit(1).exits, ())

    def test_the_yard_is_not_changed_and_the_same_again(self):
        before = self.parts(self.yard)
        for _ in range(2):
            self.assertEqual(self.yard.without_road(1, 2).roads, ((0, 1), (1, 0)))
            self.assertEqual(self.yard.without_entry(0).entries, (1,))
            self.assertEqual(self.yard.without_exit(2).exits, (1,))
        self.assertEqual(self.parts(self.yard), before)

    def test_what_stood_twice_is_gone(self):
        yard = Yard(2, roads=[(0, 1), (0, 1)], entries=[0, 0], exits=[1, 1])
        self.assertEqual(yard.without_road(0, 1).roads, ())
        self.assertEqual(yard.without_entry(0).entries, ())
        self.assertEqual(yard.without_exit(1).exits, ())

    def no_road(self, yard, x, y):
        with self.assertRaises(NoRoad) as caught:
            yard.without_road(x, y)
        error = caught.exception
        self.assertEqual((error.x, error.y), (x, y))
        self.assertEqual((type(error.x), type(error.y)), (type(x), type(y)))

    def test_no_such_road(self):
        for x, y in [(0, 2), (2, 1), (2, 0), (0, 0), (3, 0), (-1, 2), (1, BIG)]:
            self.no_road(self.yard, x, y)
        self.no_road(Yard(2), 0, 1)

    def test_true_is_no_cell_of_a_road(self):
        for x, y in [(True, 0), (0, True), (False, 1), (1, False), (False, True), (True, 2)]:
            self.no_road(self.yard, x, y)

    def test_anything_for_a_road(self):
        for thing in NOT_INTEGERS:
            self.no_road(self.yard, thing, 1)
            self.no_road(self.yard, 0, thing)
            self.no_road(self.yard, thing, thing)
        self.no_road(self.yard, (0, 1), (0, 1))

    def test_no_such_entry_or_exit(self):
        # 2 is an exit alone, and 0 an entry alone.
        for thing in [*NOT_INTEGERS, 2, 3, -1, BIG]:
            self.fails(NoCell, "x", thing, self.yard.without_entry, thing)
        for thing in [*NOT_INTEGERS, 0, 3, -1, BIG]:
            self.fails(NoCell, "x", thing, self.yard.without_exit, thing)
        for thing in [*NOT_INTEGERS, *INTEGERS]:
            self.fails(NoCell, "x", thing, Yard(3).without_entry, thing)
            self.fails(NoCell, "x", thing, Yard(3).without_exit, thing)


if __name__ == "__main__":
    unittest.main()
