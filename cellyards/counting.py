"""How many orders a yard makes, for every number of wagons, and which number each one has.

The ranks of an order lead from the first set of the yard to one that holds the empty
standing, and a row of ranks that leads to such a set is the ranks of an order. So rows
of ranks are counted here, from their ends on.
"""

from math import gcd

from cellyards.checks import check_number
from cellyards.errors import NoOrder, NotMade
from cellyards.orders import check_order, order_of, ranks_of
from cellyards.sets import Sets
from cellyards.yards import check_yard


def count(yard, n, *, modulus=None):
    """The number of orders of n wagons that a yard makes, or this number modulo another one."""
    check_yard(yard)
    check_number(n, 0)
    if modulus is not None:
        check_number(modulus, 1)
    sets = Sets(yard)
    if modulus is None:
        return _counts(sets, n)[n]
    numbers = _rule_of(sets)
    factors = _power(numbers, n, modulus)
    first = _counts(sets, len(numbers) - 1)
    return sum([factor * number for factor, number in zip(factors, first)]) % modulus


def rule(yard):
    """The shortest rule of the counts of a yard."""
    check_yard(yard)
    return _rule_of(Sets(yard))


def orders_of(yard, n):
    """An iterator that yields the orders of n wagons that a yard makes, in order."""
    check_yard(yard)
    check_number(n, 0)
    sets = Sets(yard)
    table, ways = sets.table(), _ways(sets, n)
    waiting = [((), 0)]
    while waiting:
        ranks, place = waiting.pop()
        if len(ranks) == n:
            yield order_of(ranks)
        else:
            onwards = _onwards(table[place], ways[n - len(ranks) - 1])
            # The least rank is put last, so that it is taken first.
            waiting.extend([(ranks + (rank,), later) for rank, later, _ in onwards[::-1]])


def order_at(yard, n, number):
    """The order with a number, counted from 0, among the orders of n wagons that a yard makes."""
    check_yard(yard)
    check_number(n, 0)
    check_number(number, 0)
    sets = Sets(yard)
    table, ways = sets.table(), _ways(sets, n)
    if number >= ways[n][0]:
        raise NoOrder(number)
    ranks, place, ahead = [], 0, number
    for left in range(n - 1, -1, -1):
        for rank, later, many in _onwards(table[place], ways[left]):
            if ahead < many:
                ranks.append(rank)
                place = later
                break
            ahead -= many
    return order_of(tuple(ranks))


def number_of(yard, order):
    """The number of an order, counted from 0, among those of as many wagons that a yard makes."""
    check_yard(yard)
    check_order(order)
    sets = Sets(yard)
    ranks = ranks_of(order)
    if sets.after(ranks) is None:
        raise NotMade(order)
    table, ways = sets.table(), _ways(sets, len(ranks))
    place, ahead = 0, 0
    for at, rank in enumerate(ranks):
        onwards = _onwards(table[place], ways[len(ranks) - at - 1])
        ahead += sum([many for lesser, _, many in onwards if lesser < rank])
        place = table[place][rank]
    return ahead


def _ways(sets, n):
    """For 0, 1, .., n ranks in how many ways so many of them end an order.

    There is a row of these numbers for each length: one for each set that the ranks go on from.
    """
    table = sets.table()
    ways = [[1 if sets.may_end(number) else 0 for number in range(len(table))]]
    for _ in range(n):
        ways.append([_ways_on(row, ways[-1]) for row in table])
    return ways


def _ways_on(row, ways):
    return sum([many for _, _, many in _onwards(row, ways)])


def _onwards(row, ways):
    """A list of (rank, set behind it, ways from there on) for the ranks that are a way on."""
    known = [(rank, later) for rank, later in enumerate(row) if later is not None]
    return [(rank, later, ways[later]) for rank, later in known if ways[later] > 0]


def _counts(sets, n):
    """The numbers of orders of 0, 1, .., n wagons."""
    return [row[0] for row in _ways(sets, n)]


def _rule_of(sets):
    # It is at most as long as there are sets, and twice as many counts tell it.
    return _shortest_rule(_counts(sets, 2 * len(sets.table()) - 1))


def _shortest_rule(terms):
    """The shortest rule of a row of integers, the first not 0, at least twice as many as it has.

    This is the way of Berlekamp and Massey. At each place n the sum of
    factors[i] * terms[n - i] is 0 if the rule that was found so far holds there, too. If
    it does not, one that failed before, moved to this place, sets it right.
    The factors stay integers, since all of them together may be multiplied by a number.
    """
    factors, failed, failed_by = [1], [0, 1], 1
    for n in range(len(terms)):
        miss = sum([factor * terms[n - i] for i, factor in enumerate(factors)])
        if miss != 0:
            better = _difference(failed_by, factors, miss, failed)
            if len(better) > len(factors):
                failed, failed_by = factors, miss
            factors = better
        failed = [0] + failed
    # The first factor divides the others: a rule of integers has a shortest one of integers.
    return tuple([-factor // factors[0] for factor in factors[:0:-1]])


def _difference(a, xs, b, ys):
    """a times a row less b times another one, divided by what divides all of it."""
    many = max(len(xs), len(ys))
    longer = xs + [0] * (many - len(xs))
    other = ys + [0] * (many - len(ys))
    row = [a * x - b * y for x, y in zip(longer, other)]
    common = 0
    for number in row:
        common = gcd(common, number)
    return [number // common for number in row]


def _power(numbers, n, modulus):
    """Factors for which count(n) is the sum of their products with count(0), count(1), ..

    By a rule c0, c1, .. of k numbers, x ** k may be replaced by c0 + c1 * x + .. . The factors
    are those of x ** n, brought below x ** k in this way.
    """
    power = _lowered(numbers, [1], modulus)
    for place in range(n.bit_length() - 1, -1, -1):
        power = _lowered(numbers, _product(power, power), modulus)
        if (n >> place) & 1 == 1:
            power = _lowered(numbers, [0] + power, modulus)
    return power


def _product(xs, ys):
    """The factors of the product of two polynomials."""
    row = [0] * (len(xs) + len(ys) - 1)
    for i, x in enumerate(xs):
        for j, y in enumerate(ys):
            row[i + j] += x * y
    return row


def _lowered(numbers, factors, modulus):
    """Factors that stand for the same by a rule, as many as it has or fewer, modulo a number."""
    row = list(factors)
    while len(row) > len(numbers):
        highest = row.pop()
        least = len(row) - len(numbers)
        for i, number in enumerate(numbers):
            row[least + i] += highest * number
    return [factor % modulus for factor in row]
