import copy
import itertools
import unittest

from calls import NOT_YARDS, CallTest
from cellyards.desks import Desk
from cellyards.errors import Blocked, InvalidMove, InvalidYard, NothingDone
from cellyards.moving import fewest_moves, is_run, order_made
from cellyards.yards import Yard
from judges import all_orders, dead_cells, is_standing, played
from samples import (
    BIG, NOT_INTEGERS, THINGS, counter, dead_end_yards, full, lane, many_sets, mixed_yards, no_way_yards,
    orders_by_trying, parts_of, rich_yards, sample_yards, siding, small_yards, steps_along, stub, turntable,
)

STRANGE_MOVES = [
    ("in", True), ("in", False), ("out", True), ("out", False), ("road", False, 1), ("road", 0, True),
    ("road", False, True), ["in", 0], ["out", 0], ["road", 0, 1], ("in",), ("out",), ("road",), ("in", 0, 0),
    ("in", 0, 1), ("out", 0, 1), ("out", 0, 0), ("road", 0), ("road", (0, 1)), ("road", 0, 1, 0), ("IN", 0), ("", 0),
    ("in ", 0), ("back",), (0, 0), (None, 0), (True, 0), ("in", -1), ("in", 9), ("out", -1), ("road", 0, 0),
    ("road", -1, 0), ("road", 0, -1), ("road", 0, 9), ("in", "0"), ("in", None), ("in", (0,)), ("in", [0]),
    ("road", [0], [1]), ("road", 0, None), "in", 0, (), [], {}, None, Yard(1), (Yard(1), 0), ("in", Yard(1)),
    (("in", 0),), ("in", {"a": 0}), [("in", 0)], ("in", BIG), ("out", -BIG), (("in",), 0), ({}, 0), ([], 0, 1),
]


def cells_moves(yard):
    """All moves between cells of a yard and beside them, also those that it does not have."""
    cells = range(yard.cells + 1)
    ends = [(name, x) for name in ("in", "out") for x in cells]
    return ends + [("road", x, y) for x in cells for y in cells]


class Model:
    """A desk as the document tells it, which is made anew for each move."""

    def __init__(self, yard, moves=()):
        self.yard, self.moves = yard, list(moves)
        self.inside, self.out, self.come = [0] * yard.cells, [], 0
        for move in moves:
            assert self.answer(move)[0] == "wagon"
            wagon = self.answer(move)[1]
            self.come += move[0] == "in"
            if move[0] != "in":
                self.inside[move[1]] = 0
            if move[0] == "out":
                self.out.append(wagon)
            else:
                self.inside[move[-1]] = wagon

    def has(self, move):
        if move[0] == "in":
            return move[1] in self.yard.entries
        return move[1:] in self.yard.roads if move[0] == "road" else move[1] in self.yard.exits

    def answer(self, move):
        """What a move does: ("wagon", which one moves), ("blocked", cell) or ("no", the move)."""
        if not self.has(move):
            return "no", move
        if move[0] == "in":
            return ("blocked", move[1]) if self.inside[move[1]] else ("wagon", self.come + 1)
        if not self.inside[move[1]]:
            return "blocked", move[1]
        if move[0] == "road" and self.inside[move[2]]:
            return "blocked", move[2]
        return "wagon", self.inside[move[1]]

    def told(self):
        known = sorted(wagon for wagon in self.inside if wagon)
        standing = tuple(known.index(wagon) + 1 if wagon else 0 for wagon in self.inside)
        hopeless = any(self.inside[x] for x in dead_cells(self.yard))
        return tuple(self.out), tuple(self.inside), standing, len(self.moves), self.moves, hopeless


def told(desk):
    return desk.out, desk.inside, desk.standing, len(desk), list(desk), desk.hopeless()


def led(yard, moves):
    desk = Desk(yard)
    for move in moves:
        desk.move(move)
    return desk


class DeskTest(CallTest):
    yards = [
        *sample_yards(), *small_yards()[::5], *mixed_yards(397, 100003), *rich_yards(), *dead_end_yards(),
        *no_way_yards(), full(4), stub(4),
    ]

    def same(self, desk, model):
        self.assertEqual(told(desk), model.told())
        for part in (desk.out, desk.inside, desk.standing):
            self.order_tuple(part)
        self.assertIs(type(len(desk)), int)
        self.assertIs(type(desk.hopeless()), bool)
        self.assertEqual(desk.yard, model.yard)
        self.assertTrue(is_standing(desk.standing, model.yard.cells))


class TestMove(DeskTest):
    def test_without_a_move(self):
        for yard in self.yards:
            desk = Desk(yard)
            self.same(desk, Model(yard))
            self.assertEqual((desk.out, desk.inside, list(desk)), ((), (0,) * yard.cells, []))
            self.assertIs(desk.hopeless(), False)

    def test_all_short_rows_of_moves(self):
        for yard in [lane(2), stub(2), counter(2), Yard(2, roads=[(0, 1)], entries=[0, 1], exits=[0]), Yard(2)]:
            self.grow(yard, (), 6)

    def grow(self, yard, moves, most):
        """Makes each move behind some moves, and goes on behind those that are possible."""
        model = Model(yard, moves)
        for move in cells_moves(yard):
            desk = led(yard, moves)
            kind, worth = model.answer(move)
            if kind == "wagon":
                wagon = desk.move(move)
                self.assertEqual(wagon, worth)
                self.assertIs(type(wagon), int)
                self.same(desk, Model(yard, moves + (move,)))
                if len(moves) + 1 < most:
                    self.grow(yard, moves + (move,), most)
            else:
                self.fails(Blocked if kind == "blocked" else InvalidMove, "thing", worth, desk.move, move)
                self.same(desk, model)

    def test_forty_moves_each_way(self):
        for yard in self.yards:
            moves = steps_along(yard, 40)
            desk = Desk(yard)
            for many, move in enumerate(moves):
                model = Model(yard, moves[:many])
                for other in cells_moves(yard):
                    kind, worth = model.answer(other)
                    if kind != "wagon":
                        error = Blocked if kind == "blocked" else InvalidMove
                        self.fails(error, "thing", worth, self.quick, desk.move, other)
                self.same(desk, model)
                self.assertEqual(self.quick(desk.move, move), model.answer(move)[1])
            self.same(desk, Model(yard, moves))
            for many in range(len(moves) - 1, -1, -1):
                self.assertEqual(self.quick(desk.back), moves[many])
                self.same(desk, Model(yard, moves[:many]))

    def test_what_is_in_the_way(self):
        desk = Desk(stub(3))
        self.fails(Blocked, "thing", 0, desk.move, ("out", 0))
        self.fails(Blocked, "thing", 1, desk.move, ("road", 1, 0))
        self.assertEqual(desk.move(("in", 0)), 1)
        self.fails(Blocked, "thing", 0, desk.move, ("in", 0))
        # The beginning is empty and the end is not: the beginning is looked at first.
        self.fails(Blocked, "thing", 1, desk.move, ("road", 1, 0))
        self.assertEqual(desk.move(("road", 0, 1)), 1)
        self.assertEqual(desk.move(("in", 0)), 2)
        self.fails(Blocked, "thing", 1, desk.move, ("road", 0, 1))
        self.fails(Blocked, "thing", 0, desk.move, ("road", 1, 0))
        self.fails(Blocked, "thing", 2, desk.move, ("road", 2, 1))
        # These are no moves of the yard, which is told before anything is in the way.
        self.fails(InvalidMove, "thing", ("in", 1), desk.move, ("in", 1))
        self.fails(InvalidMove, "thing", ("out", 1), desk.move, ("out", 1))
        self.fails(InvalidMove, "thing", ("road", 0, 2), desk.move, ("road", 0, 2))
        self.assertEqual(list(desk), [("in", 0), ("road", 0, 1), ("in", 0)])
        self.assertEqual((desk.inside, desk.standing, desk.out), ((2, 1, 0), (2, 1, 0), ()))
        self.assertEqual(desk.move(("out", 0)), 2)
        self.assertEqual(desk.move(move=("in", 0)), 3)
        self.assertEqual((desk.inside, desk.standing, desk.out), ((3, 1, 0), (2, 1, 0), (2,)))

    def test_strange_moves(self):
        for moves in ((), (("in", 0),), (("in", 0), ("road", 0, 1)), (("in", 0), ("road", 0, 1), ("in", 0))):
            desk = led(stub(2), moves)
            for move in STRANGE_MOVES:
                for _ in range(2):
                    self.fails(InvalidMove, "thing", move, desk.move, move)
                self.same(desk, Model(stub(2), moves))

    def test_anything(self):
        desk = led(counter(2), [("in", 1)])
        for thing in [*THINGS, *[(name, other) for name in ("in", "out") for other in NOT_INTEGERS]]:
            self.fails(InvalidMove, "thing", thing, desk.move, thing)
        for thing in [(thing, 0) for thing in NOT_INTEGERS]:
            self.fails(InvalidMove, "thing", thing, desk.move, thing)
        self.same(desk, Model(counter(2), [("in", 1)]))

    def test_errors_keep_the_argument_and_do_not_change_it(self):
        desk = Desk(stub(2))
        for move in STRANGE_MOVES:
            before = copy.deepcopy(move)
            self.fails(InvalidMove, "thing", before, desk.move, move)
            self.assertEqual(move, before)

    def test_yards_without_roads_entries_or_exits(self):
        for yard in (Yard(1), Yard(2, roads=[(0, 1)])):
            for move in cells_moves(yard):
                if move != ("road", 0, 1) or yard.cells == 1:
                    self.fails(InvalidMove, "thing", move, Desk(yard).move, move)
        self.fails(Blocked, "thing", 0, Desk(Yard(2, roads=[(0, 1)])).move, ("road", 0, 1))
        self.fails(Blocked, "thing", 1, Desk(Yard(2, exits=[1])).move, ("out", 1))

    def test_wrong_yards(self):
        for thing in NOT_YARDS:
            self.fails(InvalidYard, "thing", thing, Desk, thing)
            self.fails(InvalidYard, "thing", thing, Desk, yard=thing)
        self.assertEqual(Desk(yard=stub(2)).yard, stub(2))


class TestBack(DeskTest):
    def test_all_moves_and_one_more(self):
        for yard in self.yards:
            moves = steps_along(yard, 15)
            desk = led(yard, moves)
            self.assertEqual([desk.back() for _ in moves], moves[::-1])
            for _ in range(2):
                with self.assertRaises(NothingDone) as caught:
                    desk.back()
                self.assertIs(type(caught.exception), NothingDone)
                self.same(desk, Model(yard))

    def test_back_and_on_again(self):
        for yard in self.yards:
            moves = steps_along(yard, 20)
            desk = led(yard, moves)
            for many in (1, 2, 5, 20):
                for _ in moves[-many:]:
                    desk.back()
                wagons = [desk.move(move) for move in moves[len(moves) - len(moves[-many:]):]]
                self.assertTrue(all(type(wagon) is int for wagon in wagons))
                self.same(desk, Model(yard, moves))

    def test_each_kind_of_move(self):
        desk = led(stub(2), [("in", 0), ("road", 0, 1), ("in", 0), ("out", 0), ("road", 1, 0), ("out", 0)])
        told_before = [((2, 1), (0, 0)), ((2,), (1, 0)), ((2,), (0, 1)), ((), (2, 1)), ((), (0, 1)), ((), (1, 0))]
        for out, inside in told_before:
            self.assertEqual((desk.out, desk.inside), (out, inside))
            desk.back()
        self.assertEqual((desk.out, desk.inside, len(desk)), ((), (0, 0), 0))

    def test_another_way_on(self):
        desk = led(counter(2), [("in", 0), ("in", 1), ("out", 1)])
        self.assertEqual(desk.back(), ("out", 1))
        self.assertEqual(desk.move(("out", 0)), 1)
        self.assertEqual(desk.move(("in", 0)), 3)
        self.assertEqual((desk.out, desk.inside, desk.standing), ((1,), (3, 2), (2, 1)))
        self.assertEqual(list(desk), [("in", 0), ("in", 1), ("out", 0), ("in", 0)])


class TestWhatIsTold(DeskTest):
    def test_runs(self):
        for yard in (stub(3), turntable(), siding(), *rich_yards()[:4]):
            for order in orders_by_trying(yard, 4):
                moves = fewest_moves(yard, order)
                desk = led(yard, moves)
                self.assertEqual(desk.out, order)
                self.assertEqual(list(desk), moves)
                self.assertIs(is_run(yard, list(desk)), True)
                self.assertEqual(order_made(yard, tuple(desk)), order)

    def test_a_run_just_if_all_are_out(self):
        for yard in self.yards:
            moves = steps_along(yard, 30)
            desk = Desk(yard)
            for many, move in enumerate(moves):
                desk.move(move)
                ended = not any(desk.inside)
                self.assertIs(is_run(yard, list(desk)), ended)
                self.assertEqual(played(yard, moves[:many + 1]), desk.out if ended else None)

    def test_hopeless(self):
        desk = Desk(Yard(2, roads=[(0, 1)], entries=[0], exits=[0]))
        desk.move(("in", 0))
        self.assertIs(desk.hopeless(), False)
        desk.move(("road", 0, 1))
        self.assertIs(desk.hopeless(), True)
        desk.move(("in", 0))
        desk.move(("out", 0))
        self.assertIs(desk.hopeless(), True)
        self.assertEqual((desk.out, desk.inside, desk.standing), ((2,), (0, 1), (0, 1)))
        for _ in range(3):
            desk.back()
        self.assertIs(desk.hopeless(), False)
        for yard in no_way_yards():
            for x in yard.entries:
                self.assertIs(led(yard, [("in", x)]).hopeless(), True)

    def test_iterated_over_again_and_beside_one_another(self):
        moves = steps_along(many_sets(), 40)
        desk = led(many_sets(), moves)
        self.assertEqual([list(desk), tuple(desk), sorted(desk)], [moves, tuple(moves), sorted(moves)])
        self.assertEqual(list(zip(desk, desk)), list(zip(moves, moves)))
        one = iter(desk)
        self.assertEqual(next(one), moves[0])
        self.assertEqual(list(desk), moves)
        self.assertEqual(next(one), moves[1])
        self.assertIn(moves[5], desk)
        for move in list(desk):
            self.assertIs(type(move), tuple)

    def test_what_is_read_is_not_changed_later(self):
        desk = led(counter(2), [("in", 0), ("in", 1)])
        out, inside, standing = desk.out, desk.inside, desk.standing
        desk.move(("out", 0))
        desk.move(("in", 0))
        self.assertEqual((out, inside, standing), ((), (1, 2), (1, 2)))
        self.assertEqual((desk.out, desk.inside, desk.standing), ((1,), (3, 2), (2, 1)))

    def test_two_desks_of_one_yard(self):
        yard = counter(2)
        before = parts_of(yard)
        one, two = Desk(yard), Desk(yard)
        one.move(("in", 0))
        self.assertEqual((two.inside, len(two)), ((0, 0), 0))
        two.move(("in", 1))
        self.assertEqual((one.inside, two.inside), ((1, 0), (0, 1)))
        self.assertEqual(parts_of(yard), before)
        self.assertEqual(one.yard, yard)

    def test_properties_cannot_be_set(self):
        desk = Desk(stub(2))
        for name in ("yard", "out", "inside", "standing"):
            with self.assertRaises(AttributeError):
                setattr(desk, name, ())

    def test_as_the_standings_of_runs(self):
        for yard in (stub(3), counter(3)):
            for order in itertools.islice(all_orders(3), 6):
                moves = fewest_moves(yard, order)
                for many in range(len(moves) if moves else 0):
                    self.same(led(yard, moves[:many]), Model(yard, moves[:many]))

    def test_beyond_forty_moves(self):
        moves = steps_along(full(4), 2000)
        desk = self.quick(led, full(4), moves)
        self.assertEqual(len(desk), 2000)
        self.same(desk, Model(full(4), moves))


if __name__ == "__main__":
    unittest.main()
