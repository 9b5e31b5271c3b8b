import itertools
import unittest

from cellyards.errors import InvalidNumber, InvalidOrder, InvalidRanks
from cellyards.orders import inverse, is_order, left_out, order_of, ranks_of, turned_about
from cellyards.yards import Yard
from samples import BIG, NOT_INTEGERS, NOT_ORDERS, THINGS, orders_by_trying, sample_yards

NOT_RANKS = [
    (0,), (2,), (-1,), (1, 2), (3, 1), (2, 2), (0, 1), (1, 0), (2, 1, 2), (4, 1, 1), (1, 3, 1),
    (True,), (True, 1), (1, True), (2, False), (1, None), (1, "1"), (1, (1,)), ("1",), ((),), ([],),
    (BIG,), (-BIG, 1), [1], [1, 1], [],
]
THINGS_THAT_ARE_NO_TUPLES = [thing for thing in THINGS if not isinstance(thing, tuple)]
SIX = [order for n in range(7) for order in itertools.permutations(range(1, n + 1))]


class OrderTest(unittest.TestCase):
    def fails(self, kind, worth, call, *args, **more):
        """Whether a call raises just this error with this thing, of the same kind."""
        with self.assertRaises(kind) as caught:
            call(*args, **more)
        self.assertIs(type(caught.exception), kind)
        self.assertEqual(caught.exception.thing, worth)
        self.assertIs(type(caught.exception.thing), type(worth))

    def refuses_what_is_no_order(self, call, *more):
        for thing in [*NOT_ORDERS, *THINGS_THAT_ARE_NO_TUPLES, (Yard(1),)]:
            self.fails(InvalidOrder, thing, call, thing, *more)

    def tuple_of_integers(self, thing):
        self.assertIs(type(thing), tuple)
        self.assertTrue(all(type(item) is int for item in thing))


class TestIsOrder(OrderTest):
    def test_orders(self):
        for order in [*SIX, tuple(range(1, 41)), tuple(range(40, 0, -1)), tuple(range(1, 5001))]:
            self.assertIs(is_order(order), True)
        self.assertIs(is_order(thing=(2, 1)), True)

    def test_the_order_of_no_wagons(self):
        self.assertIs(is_order(()), True)
        self.assertIs(is_order([]), False)

    def test_all_short_tuples(self):
        for n in range(5):
            for row in itertools.product(range(-1, 6), repeat=n):
                self.assertIs(is_order(row), sorted(row) == list(range(1, n + 1)), row)

    def test_what_is_no_order(self):
        for thing in NOT_ORDERS:
            self.assertIs(is_order(thing), False, thing)

    def test_anything(self):
        for thing in THINGS:
            self.assertIs(is_order(thing), thing == () or thing == (1,))
            self.assertIs(is_order((thing,)), thing == 1 and type(thing) is int)
            self.assertIs(is_order((thing, thing)), False)


class TestRanks(OrderTest):
    def test_ranks_of(self):
        self.assertEqual(ranks_of(()), ())
        self.assertEqual(ranks_of((1,)), (1,))
        self.assertEqual(ranks_of((3, 1, 2)), (3, 1, 1))
        self.assertEqual(ranks_of((2, 4, 1, 3)), (2, 3, 1, 1))
        self.assertEqual(ranks_of(order=(2, 3, 1)), (2, 2, 1))

    def test_each_rank_is_one_more_than_the_lesser_wagons_behind(self):
        for order in SIX:
            ranks = ranks_of(order)
            self.tuple_of_integers(ranks)
            self.assertEqual(len(ranks), len(order))
            for k, wagon in enumerate(order):
                self.assertEqual(ranks[k], 1 + sum(behind < wagon for behind in order[k:]))

    def test_order_of(self):
        self.assertEqual(order_of(()), ())
        self.assertEqual(order_of((1,)), (1,))
        self.assertEqual(order_of((3, 1, 1)), (3, 1, 2))
        self.assertEqual(order_of((2, 3, 1, 1)), (2, 4, 1, 3))
        self.assertEqual(order_of(ranks=(2, 2, 1)), (2, 3, 1))

    def test_one_leads_back_to_the_other(self):
        for order in SIX:
            self.assertEqual(order_of(ranks_of(order)), order)
            self.tuple_of_integers(order_of(ranks_of(order)))

    def test_just_the_tuples_from_1_to_n_less_k_are_ranks(self):
        for n in range(5):
            for row in itertools.product(range(-1, 6), repeat=n):
                if all(1 <= rank <= n - k for k, rank in enumerate(row)):
                    self.assertEqual(ranks_of(order_of(row)), row)
                else:
                    self.fails(InvalidRanks, row, order_of, row)

    def test_orders_stand_as_their_ranks_do(self):
        orders = list(itertools.permutations(range(1, 6)))
        self.assertEqual(sorted(orders, key=ranks_of), sorted(orders))

    def test_forty_wagons(self):
        self.assertEqual(ranks_of(tuple(range(40, 0, -1))), tuple(range(40, 0, -1)))
        self.assertEqual(order_of(tuple(range(40, 0, -1))), tuple(range(40, 0, -1)))
        self.assertEqual(ranks_of(tuple(range(1, 41))), (1,) * 40)
        self.assertEqual(order_of((1,) * 40), tuple(range(1, 41)))

    def test_wrong_orders(self):
        self.refuses_what_is_no_order(ranks_of)
        self.fails(InvalidOrder, [1], ranks_of, order=[1])

    def test_wrong_ranks(self):
        for thing in [*NOT_RANKS, *THINGS_THAT_ARE_NO_TUPLES]:
            self.fails(InvalidRanks, thing, order_of, thing)
        self.fails(InvalidRanks, [1], order_of, ranks=[1])


class TestLeftOut(OrderTest):
    def test_left_out(self):
        self.assertEqual(left_out((1,), 0), ())
        self.assertEqual(left_out((3, 1, 2), 0), (1, 2))
        self.assertEqual(left_out((3, 1, 2), 1), (2, 1))
        self.assertEqual(left_out((3, 1, 2), 2), (2, 1))
        self.assertEqual(left_out(place=1, order=(2, 4, 1, 3)), (2, 1, 3))

    def test_the_others_stand_as_they_do(self):
        for order in SIX:
            for place in range(len(order)):
                left = left_out(order, place)
                self.tuple_of_integers(left)
                self.assertTrue(is_order(left))
                others = order[:place] + order[place + 1:]
                for a, b in itertools.combinations(range(len(left)), 2):
                    self.assertEqual(left[a] < left[b], others[a] < others[b])

    def test_the_order_is_not_changed_and_the_same_again(self):
        order = (3, 1, 2)
        self.assertEqual(left_out(order, 1), left_out(order, 1))
        self.assertEqual(order, (3, 1, 2))

    def test_a_yard_makes_them_too(self):
        for yard in sample_yards():
            for n in range(1, 5):
                fewer = orders_by_trying(yard, n - 1)
                for order in orders_by_trying(yard, n):
                    for place in range(n):
                        self.assertIn(left_out(order, place), fewer)

    def test_wrong_orders(self):
        self.refuses_what_is_no_order(left_out, 0)

    def test_wrong_places(self):
        for thing in [*NOT_INTEGERS, -1, 2, 3, BIG, -BIG]:
            self.fails(InvalidNumber, thing, left_out, (2, 1), thing)
            self.fails(InvalidNumber, thing, left_out, order=(2, 1), place=thing)

    def test_no_wagons_have_no_places(self):
        for thing in [*NOT_INTEGERS, -1, 0, 1]:
            self.fails(InvalidNumber, thing, left_out, (), thing)

    def test_the_order_is_looked_at_first(self):
        self.fails(InvalidOrder, (1, 1), left_out, (1, 1), None)
        self.fails(InvalidOrder, [1], left_out, place=-1, order=[1])


class TestInverse(OrderTest):
    def test_inverse(self):
        self.assertEqual(inverse(()), ())
        self.assertEqual(inverse((1,)), (1,))
        self.assertEqual(inverse((3, 1, 2)), (2, 3, 1))
        self.assertEqual(inverse(order=(2, 4, 1, 3)), (3, 1, 4, 2))

    def test_the_place_of_each_wagon(self):
        for order in SIX:
            places = inverse(order)
            self.tuple_of_integers(places)
            self.assertEqual(len(places), len(order))
            self.assertEqual([order[place - 1] for place in places], sorted(order))

    def test_forty_wagons(self):
        order = tuple(range(2, 41)) + (1,)
        self.assertEqual(inverse(order), (40,) + tuple(range(1, 40)))

    def test_wrong_orders(self):
        self.refuses_what_is_no_order(inverse)


class TestTurnedAbout(OrderTest):
    def test_turned_about(self):
        self.assertEqual(turned_about(()), ())
        self.assertEqual(turned_about((1,)), (1,))
        self.assertEqual(turned_about((2, 1)), (2, 1))
        self.assertEqual(turned_about((2, 3, 4, 1)), (2, 3, 4, 1))
        self.assertEqual(turned_about((1, 3, 2)), (2, 1, 3))
        self.assertEqual(turned_about(order=(1, 3, 4, 2)), (2, 3, 1, 4))

    def test_the_inverse_read_from_behind_each_number_turned(self):
        for order in SIX:
            n = len(order)
            turned = turned_about(order)
            self.tuple_of_integers(turned)
            places = [order.index(wagon) + 1 for wagon in range(n, 0, -1)]
            self.assertEqual(turned, tuple([n + 1 - place for place in places]))
            self.assertEqual(turned_about(turned), order)

    def test_forty_wagons(self):
        order = (2, 1) + tuple(range(3, 41))
        self.assertEqual(turned_about(order), tuple(range(1, 39)) + (40, 39))

    def test_wrong_orders(self):
        self.refuses_what_is_no_order(turned_about)


if __name__ == "__main__":
    unittest.main()
