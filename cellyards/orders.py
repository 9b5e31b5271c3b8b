"""Orders of wagons and their ranks."""

from cellyards.checks import is_between, is_integer
from cellyards.errors import InvalidNumber, InvalidOrder, InvalidRanks


def is_order(thing):
    """Whether a value, which may be anything, is an order."""
    if not isinstance(thing, tuple) or not all([is_integer(wagon) for wagon in thing]):
        return False
    return sorted(thing) == list(range(1, len(thing) + 1))


def is_ranks(thing):
    """Whether a value, which may be anything, is the ranks of an order."""
    if not isinstance(thing, tuple):
        return False
    n = len(thing)
    return all([is_between(rank, 1, n - place) for place, rank in enumerate(thing)])


def check_order(order):
    """Raises InvalidOrder if a value is not an order."""
    if not is_order(order):
        raise InvalidOrder(order)


def check_ranks(ranks):
    """Raises InvalidRanks if a value is not the ranks of an order."""
    if not is_ranks(ranks):
        raise InvalidRanks(ranks)


def ranks_of(order):
    """The ranks of an order."""
    check_order(order)
    return tuple([_rank_at(order, place) for place in range(len(order))])


def _rank_at(order, place):
    wagon = order[place]
    return 1 + len([later for later in order[place + 1:] if later < wagon])


def order_of(ranks):
    """The order with these ranks."""
    check_ranks(ranks)
    waiting = list(range(1, len(ranks) + 1))
    order = []
    for rank in ranks:
        order.append(waiting.pop(rank - 1))
    return tuple(order)


def left_out(order, place):
    """The order with the wagon at a place left out."""
    check_order(order)
    if not is_between(place, 0, len(order) - 1):
        raise InvalidNumber(place)
    gone = order[place]
    others = order[:place] + order[place + 1:]
    return tuple([wagon - 1 if wagon > gone else wagon for wagon in others])


def inverse(order):
    """The tuple of the places, counted from 1, of the wagons 1, 2, .."""
    check_order(order)
    return tuple([order.index(wagon) + 1 for wagon in range(1, len(order) + 1)])


def turned_about(order):
    """The order that the turned yard makes of an order of the yard."""
    places = inverse(order)
    return tuple([len(places) + 1 - place for place in places[::-1]])
