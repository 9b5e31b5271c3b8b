"""The arguments of the functions: their names, which error a wrong one raises, and which comes first."""

import copy
import unittest

from calls import NOT_YARDS, CallTest
from cellyards.blind import blind, blind_paper, is_blind_paper
from cellyards.comparing import is_within, parted, parting, within, within_paper
from cellyards.counting import count, number_of, order_at, orders_of, rule
from cellyards.desks import Desk
from cellyards.errors import (
    InvalidCells, InvalidMove, InvalidNumber, InvalidOrder, InvalidRanks, InvalidRoads, InvalidYard, NoCell, NoRoad,
    NothingDone, YardError,
)
from cellyards.moving import bar, can, fewest_moves, is_bar, is_run, order_made
from cellyards.orders import inverse, is_order, left_out, order_of, ranks_of, turned_about
from cellyards.parts import in_the_way, spare_entries, spare_exits, spare_roads
from cellyards.patterns import is_pattern, patterns, patterns_of
from cellyards.rooms import loop, room
from cellyards.yards import Yard
from samples import BIG, NOT_INTEGERS, NOT_ORDERS, THINGS, counter, lane, parts_of, stub

NOT_NUMBERS = [*NOT_INTEGERS, -1, -BIG]
NO_RUNS = [
    None, True, 0, "", "in", {}, {"in": 0}, stub(2), ("in", 0), [("in", 0)], (("in", 0),), [[]],
    [("in", 0), ("out", 1)], [("out", 0)], [("in", 0), ["out", 0]], [("in", False), ("out", 0)],
]
# For each kind of argument: wrong ones, the error, and a right one.
KINDS = {
    "yard": (NOT_YARDS, InvalidYard, stub(2)),
    "order": ([*NOT_ORDERS, *[thing for thing in THINGS if type(thing) is not tuple]], InvalidOrder, (2, 1)),
    "n": (NOT_NUMBERS, InvalidNumber, 2),
    "number": (NOT_NUMBERS, InvalidNumber, 1),
    "k": ([*NOT_NUMBERS, 0], InvalidNumber, 1),
    "modulus": ([thing for thing in NOT_INTEGERS if thing is not None] + [0, -1, -BIG], InvalidNumber, 7),
    "moves": (NO_RUNS, InvalidMove, [("in", 0), ("out", 0)]),
    "thing": ([], None, []),
}
KINDS.update({name: KINDS["yard"] for name in ("inner", "outer", "other", "first", "second")})


def first_of(yard, n):
    """The first order of an iterator, which is when its errors are raised."""
    return next(orders_of(yard, n))


def listed(yard, n):
    return list(orders_of(yard, n))


# Each function with the names of its arguments; those behind the star are passed by name only.
CALLS = [
    (is_run, "yard thing"), (order_made, "yard moves"), (fewest_moves, "yard order"),
    (can, "yard order"), (bar, "yard order"), (is_bar, "yard order thing"),
    (count, "yard n *modulus"), (rule, "yard"), (first_of, "yard n"), (order_at, "yard n number"),
    (number_of, "yard order"), (within, "inner outer"), (parting, "yard other"),
    (within_paper, "inner outer"), (is_within, "inner outer thing"), (parted, "first second order"),
    (is_pattern, "yard order"), (patterns_of, "yard n"), (patterns, "yard"),
    (room, "yard"), (loop, "yard k"), (blind, "yard"), (blind_paper, "yard"), (is_blind_paper, "yard thing"),
    (in_the_way, "yard order"), (spare_roads, "yard"), (spare_entries, "yard"), (spare_exits, "yard"),
]


def objects():
    """Objects of the package that are no yards, new ones each time."""
    desk = Desk(stub(2))
    desk.move(("in", 0))
    return [Desk(stub(2)), desk, YardError("no"), NothingDone(), InvalidMove(desk), orders_of(stub(2), 2)]


def called(call, values):
    """A call, by place as far as it may be, of (name, value)s."""
    places = [value for name, value in values if name[0] != "*"]
    return call(*places, **{name[1:]: value for name, value in values if name[0] == "*"})


def by_name(call, values):
    """A call with all arguments by name, the last one first."""
    return call(**{name.strip("*"): value for name, value in reversed(values)})


def right(name):
    return KINDS[name.strip("*")][2]


class TestArguments(CallTest):
    def wrong_calls(self):
        """Calls with one wrong argument, or with all of them wrong from there on."""
        for call, words in CALLS:
            names = words.split()
            for at, name in enumerate(names):
                wrong, kind, _ = KINDS[name.strip("*")]
                for item in wrong:
                    ahead = [(other, right(other)) for other in names[:at]]
                    later = [(other, right(other)) for other in names[at + 1:]]
                    worse = [(other, ([*KINDS[other.strip("*")][0], []])[0]) for other in names[at + 1:]]
                    yield call, kind, item, [*ahead, (name, item), *later]
                    yield call, kind, item, [*ahead, (name, item), *worse]

    def test_the_first_wrong_argument_is_told(self):
        for call, kind, item, values in self.wrong_calls():
            self.fails(kind, "thing", item, called, call, values)
            self.fails(kind, "thing", item, by_name, call, values)

    def test_right_arguments_by_place_and_by_name_and_once_more(self):
        for call, words in CALLS:
            values = [(name, right(name)) for name in words.split()]
            answer = called(call, values)
            for other in (by_name(call, values), called(call, values)):
                self.assertEqual(other, answer)
                self.assertIs(type(other), type(answer))

    def test_modulus_only_by_name(self):
        with self.assertRaises(TypeError):
            count(stub(2), 2, 7)
        self.assertEqual(count(stub(2), 2), count(stub(2), 2, modulus=None))

    def test_an_order_of_no_wagons(self):
        yards = [stub(2), lane(3), counter(1)]
        for yard in yards:
            self.assertEqual(fewest_moves(yard, ()), [])
            self.assertIs(can(yard, ()), True)
            self.assertIsNone(bar(yard, ()))
            self.assertIs(is_bar(yard, (), [[]]), False)
            self.assertEqual(number_of(yard, ()), 0)
            self.assertEqual(parted(yard, stub(2), ()), ((), ()))
            self.assertIs(is_pattern(yard, ()), False)
            self.assertIsNone(in_the_way(yard, ()))
        for call, words in CALLS:
            values = [(name, right(name)) for name in words.split()]
            values[0] = (values[0][0], ())
            self.fails(InvalidYard, "thing", (), called, call, values)

    def test_errors_keep_the_argument_and_nothing_is_changed(self):
        for call, kind, item, values in self.wrong_calls():
            before = copy.deepcopy(values)
            self.fails(kind, "thing", item, called, call, values)
            self.assertEqual(values, before)

    def test_an_iterator_raises_when_the_first_one_is_wanted_and_is_at_its_end_then(self):
        wrong = [(thing, 2, InvalidYard, thing) for thing in NOT_YARDS]
        wrong += [(stub(2), thing, InvalidNumber, thing) for thing in NOT_NUMBERS]
        for yard, n, kind, thing in wrong:
            rows = orders_of(yard, n)
            self.fails(kind, "thing", thing, next, rows)
            for _ in range(3):
                self.assertEqual(next(rows, "end"), "end")

    def test_yards_are_not_changed(self):
        for call, words in CALLS:
            names = words.split()
            values = [(name, copy.deepcopy(right(name))) for name in names]
            before = [parts_of(value) for name, value in values if KINDS[name.strip("*")][1] is InvalidYard]
            called(call, values)
            after = [parts_of(value) for name, value in values if KINDS[name.strip("*")][1] is InvalidYard]
            self.assertEqual(after, before)
            others = [value for name, value in values]
            self.assertEqual(others, [right(name) for name in names])


class TestObjectsOfThePackage(CallTest):
    def raises(self, kind, field, thing, call, *args, **more):
        """Whether a call raises just this error with this very object."""
        with self.assertRaises(kind) as caught:
            call(*args, **more)
        self.assertIs(type(caught.exception), kind)
        self.assertIs(getattr(caught.exception, field), thing)

    def test_for_each_argument_of_each_function(self):
        for call, words in CALLS:
            names = words.split()
            for at, name in enumerate(names):
                _, kind, _ = KINDS[name.strip("*")]
                for thing in objects():
                    values = [(other, thing if other == name else right(other)) for other in names]
                    if kind is None:
                        self.assertIs(called(call, values), False)
                    else:
                        self.raises(kind, "thing", thing, called, call, values)

    def test_within_other_values(self):
        for thing in objects():
            for call in (is_run, is_blind_paper):
                for other in ([thing], (thing,), [(thing, 0)], (thing, ()), ("good", (thing,)), ("bad", (thing,))):
                    self.assertIs(call(stub(2), other), False)
            for other in ([[thing], []], [thing, []], [((0, 0), (thing,))], [(thing, ((0, 0),))], [thing]):
                self.assertIs(is_bar(stub(2), (3, 1, 2), other), False)
                self.assertIs(is_within(stub(2), stub(2), other), False)
            self.assertIs(is_order((thing,)), False)
            self.assertIs(stub(2) == thing, False)

    def test_for_arguments_of_orders_and_yards(self):
        for thing in objects():
            self.assertIs(is_order(thing), False)
            for call in (ranks_of, inverse, turned_about):
                self.raises(InvalidOrder, "thing", thing, call, thing)
            self.raises(InvalidOrder, "thing", thing, left_out, thing, 0)
            self.raises(InvalidNumber, "thing", thing, left_out, (1,), thing)
            self.raises(InvalidRanks, "thing", thing, order_of, thing)
            self.raises(InvalidNumber, "thing", thing, Yard, thing)
            for name, kind in (("roads", InvalidRoads), ("entries", InvalidCells), ("exits", InvalidCells)):
                self.raises(kind, "place", None, Yard, 2, **{name: thing})
                self.raises(kind, "place", 0, Yard, 2, **{name: [thing]})
            self.raises(NoRoad, "x", thing, stub(2).without_road, thing, 0)
            self.raises(NoRoad, "y", thing, stub(2).without_road, 0, thing)
            self.raises(NoCell, "x", thing, stub(2).without_entry, thing)
            self.raises(NoCell, "x", thing, stub(2).without_exit, thing)
            for add in (lambda x: stub(2) + x, lambda x: x + stub(2)):
                with self.assertRaises(TypeError):
                    add(thing)

    def test_for_desks(self):
        for thing in objects():
            self.raises(InvalidYard, "thing", thing, Desk, thing)
            desk = Desk(stub(2))
            self.raises(InvalidMove, "thing", thing, desk.move, thing)
            for name in ("in", "out", "road"):
                with self.assertRaises(InvalidMove):
                    desk.move((name, thing))
                with self.assertRaises(InvalidMove):
                    desk.move((thing, 0))
            self.assertEqual((len(desk), desk.inside), (0, (0, 0)))


class TestDesk(CallTest):
    def test_arguments_by_name(self):
        desk = Desk(yard=stub(2))
        self.assertEqual(desk.move(move=("in", 0)), 1)
        with self.assertRaises(TypeError):
            Desk()
        with self.assertRaises(TypeError):
            desk.back(1)


if __name__ == "__main__":
    unittest.main()
