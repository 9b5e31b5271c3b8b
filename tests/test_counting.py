import itertools
import unittest
from fractions import Fraction
from math import factorial

from calls import CallTest
from cellyards.counting import count, number_of, order_at, orders_of, rule
from cellyards.errors import InvalidNumber, InvalidYard, NoOrder, NotMade
from cellyards.yards import Yard
from judges import all_orders
from samples import (
    BIG, counter, full, lane, loops, many_lines, many_sets, mixed_yards, no_way_yards, orders_by_trying, rich_yards,
    sample_yards, siding, small_yards, stub, turntable,
)

NO_WAY = no_way_yards()
THIRTY = [10 ** 30 - 1, 10 ** 29, 2 ** 99 - 1, 999999999999999989, 10 ** 29 + 33]


def fibonacci(n, modulus=None):
    """The n-th number of Fibonacci, by halving n."""
    def pair(k):
        if k == 0:
            return 0, 1
        a, b = pair(k // 2)
        c, d = a * (2 * b - a), a * a + b * b
        c, d = (d, c + d) if k % 2 else (c, d)
        return (c, d) if modulus is None else (c % modulus, d % modulus)
    return pair(n)[0]


def power(base, n, modulus):
    return base ** n if modulus is None else pow(base, n, modulus)


def known_counts():
    """(yard, count for n from 1 on) where a formula is known."""
    def of_counter(cells):
        return lambda n, m: (factorial(n) if n < cells else factorial(cells) * power(cells, n - cells, m))
    return [
        (lane(1), lambda n, m: 1), (lane(4), lambda n, m: 1),
        (counter(1), of_counter(1)), (counter(2), of_counter(2)),
        (counter(3), of_counter(3)), (counter(4), of_counter(4)), (full(4), of_counter(4)),
        (stub(2), lambda n, m: power(2, n - 1, m)),
        (stub(3), lambda n, m: fibonacci(2 * n - 1, m)),
        # Half of an odd number: taken modulo twice the modulus first.
        (stub(4), lambda n, m: (power(3, n - 1, None if m is None else 2 * m) + 1) // 2),
        *[(yard, lambda n, m: 0) for yard in NO_WAY],
    ]


def determinant(rows):
    """Of a square of integers, by fractions."""
    rows = [[Fraction(item) for item in row] for row in rows]
    worth = Fraction(1)
    for k in range(len(rows)):
        at = next((r for r in range(k, len(rows)) if rows[r][k] != 0), None)
        if at is None:
            return 0
        if at != k:
            rows[k], rows[at] = rows[at], rows[k]
            worth = -worth
        worth *= rows[k][k]
        for r in range(k + 1, len(rows)):
            part = rows[r][k] / rows[k][k]
            rows[r] = [a - part * b for a, b in zip(rows[r], rows[k])]
    return worth


class CountingTest(CallTest):
    yards = [*sample_yards(), *small_yards(), *mixed_yards(), *rich_yards(), full(4)]

    def most(self, yard):
        """For how many wagons all moves are tried."""
        return 5 if yard.cells < 4 else 4

    def tried(self):
        for yard in self.yards:
            for n in range(self.most(yard) + 1):
                yield yard, n, sorted(orders_by_trying(yard, n))


class TestCount(CountingTest):
    def test_as_many_as_are_found_by_trying(self):
        for yard, n, orders in self.tried():
            self.assertEqual(count(yard, n), len(orders), (n, yard.roads))
            self.assertIs(type(count(yard, n)), int)

    def test_no_wagons(self):
        for yard in self.yards + NO_WAY:
            self.assertEqual(count(yard, 0), 1)
            self.assertEqual(count(yard, 0, modulus=1), 0)
            self.assertEqual(count(yard, 0, modulus=2), 1)

    def test_known_formulas(self):
        for yard, formula in known_counts():
            for n in (1, 2, 3, 4, 5, 6, 7, 30, 99, 200):
                self.assertEqual(count(yard, n), formula(n, None), n)

    def test_modulo(self):
        for yard in [*self.yards[::9], *rich_yards()]:
            for n in (0, 1, 2, 3, 7, 40):
                whole = count(yard, n)
                for modulus in (1, 2, 10, 97, 10 ** 29 + 33, BIG):
                    found = count(yard, n, modulus=modulus)
                    self.assertEqual(found, whole % modulus, (n, modulus))
                    self.assertIs(type(found), int)

    def test_modulo_with_great_numbers(self):
        for yard, formula in known_counts():
            for n in THIRTY:
                for modulus in (1, 2, *THIRTY):
                    found = self.quick(count, yard, n, modulus=modulus)
                    self.assertEqual(found, formula(n, modulus) % modulus)

    def test_modulo_follows_the_rule_at_great_numbers(self):
        for yard in (loops(), siding(), turntable(), many_lines(), many_sets()):
            numbers = rule(yard)
            for n, modulus in itertools.product(THIRTY[:2], THIRTY[2:4]):
                row = [count(yard, n + i, modulus=modulus) for i in range(len(numbers) + 1)]
                self.assertEqual(sum(a * b for a, b in zip(numbers, row)) % modulus, row[-1])
                # And it is no rule of other numbers that is followed.
                self.assertNotEqual(row[-1], 0)

    def test_wrong_moduli(self):
        for modulus in (0, -1, -BIG, True, False, "2", (), [3], Yard(1)):
            self.fails(InvalidNumber, "thing", modulus, count, stub(2), 3, modulus=modulus)

    def test_as_great_as_may_be(self):
        for yard in (many_sets(), many_lines(), full(4), loops(), siding()):
            numbers = rule(yard)
            most = max(200, 2 * len(numbers) + 3)
            row = [self.quick(count, yard, most - i) for i in range(len(numbers) + 1)]
            self.assertEqual(row[0], sum(a * b for a, b in zip(numbers, reversed(row))))
            self.assertEqual(count(yard, most, modulus=10 ** 29), row[0] % 10 ** 29)


class TestRule(CountingTest):
    def test_it_holds_from_no_wagons_on_and_is_shortest(self):
        yards = {str(rule(yard)): yard for yard in [*self.yards, *NO_WAY]}
        self.assertGreater(len(yards), 15)
        for yard in yards.values():
            numbers = rule(yard)
            k = len(numbers)
            self.order_tuple(numbers)
            self.assertGreater(k, 0)
            counts = [count(yard, n) for n in range(2 * k + 40)]
            for n in range(len(counts) - k):
                self.assertEqual(counts[n + k], sum(a * b for a, b in zip(numbers, counts[n:])))
            # A shorter rule would make the rows of this square depend on one another.
            self.assertNotEqual(determinant([counts[i:i + k] for i in range(k)]), 0)

    def test_known_rules(self):
        for yard in NO_WAY:
            self.assertEqual(rule(yard), (0,))
        self.assertEqual(rule(lane(1)), (1,))
        self.assertEqual(rule(lane(4)), (1,))
        self.assertEqual(rule(counter(1)), (1,))
        # 1, 1, 2, 4, ..: the first number is 0, since doubling begins with one wagon only.
        self.assertEqual(rule(stub(2)), (0, 2))
        self.assertEqual(rule(counter(3)), (0, 0, 3))
        self.assertEqual(rule(counter(4)), (0, 0, 0, 4))
        self.assertEqual(rule(full(4)), (0, 0, 0, 4))
        self.assertEqual(rule(stub(3)), (-1, 3))
        self.assertEqual(rule(yard=stub(4)), (0, -3, 4))

    def test_the_longest_one(self):
        numbers = self.quick(rule, many_sets())
        self.assertEqual(len(numbers), 19)
        self.assertEqual(self.quick(rule, many_sets()), numbers)
        self.assertEqual(len(self.quick(rule, many_lines())), 16)


class TestOrdersOf(CountingTest):
    def test_all_of_them_in_order(self):
        for yard, n, orders in self.tried():
            self.assertEqual(list(orders_of(yard, n)), orders)

    def test_kinds(self):
        rows = orders_of(stub(2), 3)
        self.assertIs(iter(rows), rows)
        self.assertEqual(next(rows), (1, 2, 3))
        for order in rows:
            self.order_tuple(order)
        self.assertEqual(next(rows, None), None)
        self.assertEqual(list(orders_of(n=2, yard=stub(2))), [(1, 2), (2, 1)])

    def test_no_wagons_and_no_orders(self):
        for yard in self.yards + NO_WAY:
            self.assertEqual(list(orders_of(yard, 0)), [()])
        for yard in NO_WAY:
            self.assertEqual(list(orders_of(yard, 1)), [])
            self.assertEqual(list(orders_of(yard, 40)), [])

    def test_two_iterators_do_not_disturb_one_another(self):
        one, two = orders_of(stub(3), 4), orders_of(stub(3), 4)
        pairs = []
        for order in one:
            pairs.append((order, next(two)))
        self.assertTrue(all(a == b for a, b in pairs))
        self.assertEqual(len(pairs), 13)

    def test_an_error_is_raised_when_the_first_one_is_wanted(self):
        rows = orders_of(None, -1)
        self.fails(InvalidYard, "thing", None, next, rows)
        self.assertEqual(list(rows), [])
        rows = orders_of(n=True, yard=stub(2))
        self.fails(InvalidNumber, "thing", True, next, rows)
        self.assertEqual(list(rows), [])

    def test_forty_wagons(self):
        for yard in (full(4), many_sets(), many_lines(), stub(4), loops()):
            rows = orders_of(yard, 40)
            before = self.quick(next, rows)
            self.assertEqual(before, order_at(yard, 40, 0))
            for number in range(1, 200):
                order = self.quick(next, rows)
                self.assertLess(before, order)
                if number % 20 == 0:
                    self.assertEqual(number_of(yard, order), number)
                before = order
        rows = orders_of(lane(4), 40)
        self.assertEqual(self.quick(list, rows), [tuple(range(1, 41))])


class TestOrderAt(CountingTest):
    def test_each_number_below_the_count(self):
        for yard, n, orders in self.tried():
            for number, order in enumerate(orders[:30]):
                found = order_at(yard, n, number)
                self.assertEqual(found, order)
                self.order_tuple(found)

    def test_at_the_count_and_behind_there_is_none(self):
        for yard, n, orders in self.tried():
            many = len(orders)
            if many > 0:
                self.assertEqual(order_at(yard, n, many - 1), orders[-1])
            for number in (many, many + 1, BIG):
                self.fails(NoOrder, "number", number, order_at, yard, n, number)

    def test_no_wagons(self):
        for yard in self.yards + NO_WAY:
            self.assertEqual(order_at(yard, 0, 0), ())
            self.fails(NoOrder, "number", 1, order_at, yard, 0, 1)
        for yard in NO_WAY:
            self.fails(NoOrder, "number", 0, order_at, yard, 1, 0)

    def test_forty_wagons_there_and_back(self):
        for yard in (full(4), many_sets(), many_lines(), stub(4), loops(), lane(4), turntable()):
            many = count(yard, 40)
            for number in sorted({0, 1 % many, many // 3, many // 2, many - 1}):
                order = self.quick(order_at, yard, 40, number)
                self.assertEqual(len(order), 40)
                self.assertEqual(self.quick(number_of, yard, order), number)
            self.fails(NoOrder, "number", many, order_at, yard, n=40, number=many)

    def test_a_wrong_number_is_told_before_there_is_no_order(self):
        for number in (-1, True, False, None, "0", (0,)):
            self.fails(InvalidNumber, "thing", number, order_at, Yard(1), 5, number)
        self.fails(InvalidNumber, "thing", -1, order_at, Yard(1), -1, -2)


class TestNumberOf(CountingTest):
    def test_each_order(self):
        for yard, n, orders in self.tried():
            for number, order in enumerate(orders[:30]):
                found = number_of(yard, order)
                self.assertEqual(found, number)
                self.assertIs(type(found), int)

    def test_orders_that_are_not_made(self):
        for yard in self.yards:
            for n in range(self.most(yard)):
                made = orders_by_trying(yard, n)
                for order in all_orders(n):
                    if order not in made:
                        self.fails(NotMade, "order", order, number_of, yard, order)

    def test_no_wagons(self):
        for yard in self.yards + NO_WAY:
            self.assertEqual(number_of(yard, ()), 0)
        for yard in NO_WAY:
            self.fails(NotMade, "order", (1,), number_of, yard, (1,))

    def test_forty_wagons(self):
        backwards = tuple(range(40, 0, -1))
        for yard in (full(4), stub(4), many_sets()):
            self.fails(NotMade, "order", backwards, self.quick, number_of, yard, backwards)
            self.assertEqual(self.quick(number_of, yard, tuple(range(1, 41))), 0)
        last = tuple(4 * k + wagon for k in range(10) for wagon in (4, 3, 2, 1))
        self.assertLess(number_of(stub(4), last), count(stub(4), 40))
        self.assertEqual(order_at(stub(4), 40, number_of(stub(4), last)), last)


if __name__ == "__main__":
    unittest.main()
