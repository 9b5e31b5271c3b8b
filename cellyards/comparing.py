"""Whether one yard makes all orders that another one makes, for every number of wagons."""

from cellyards.moving import fewest_moves
from cellyards.orders import check_order, order_of
from cellyards.sets import Sets
from cellyards.standings import Standings, is_standing
from cellyards.yards import check_yard


def within(inner, outer):
    """None if one yard is within another one, otherwise the order that shows it is not."""
    check_yard(inner)
    check_yard(outer)
    made, other = Sets(inner), Sets(outer)
    reached = {(0, 0): ()}
    waiting = [(0, 0)]
    looked_at = 0
    # Short rows of ranks come first, and of these the lesser ones: so does their order.
    while looked_at < len(waiting):
        here, there = waiting[looked_at]
        ranks = reached[here, there]
        looked_at += 1
        if there is None and made.may_end(here):
            return order_of(ranks)
        for rank in range(1, inner.cells + 1):
            later = (made.behind(here, rank), None if there is None else other.behind(there, rank))
            if later[0] is not None and later not in reached:
                reached[later] = ranks + (rank,)
                waiting.append(later)
    return None


def parting(yard, other):
    """None if two yards are alike, otherwise the order that parts them."""
    check_yard(yard)
    check_yard(other)
    shown = [order for order in [within(yard, other), within(other, yard)] if order is not None]
    if len(shown) == 0:
        return None
    return sorted(shown, key=lambda order: (len(order), order))[0]


def within_paper(inner, outer):
    """A within paper, or None if one yard is not within the other one."""
    check_yard(inner)
    check_yard(outer)
    ground, sets = Standings(inner), Sets(outer)
    start = (ground.empty(), 0)
    reached = {start: True}
    waiting = [start]
    while waiting:
        pair = waiting.pop()
        wanted = _wanted(ground, sets, pair)
        if wanted is None:
            return None
        for later in wanted:
            if later not in reached:
                reached[later] = True
                waiting.append(later)
    return [(standing, sets.row(number)) for standing, number in reached]


def _wanted(ground, sets, pair):
    """The (standing, number of a set) that one of them asks for, or None if a set is empty."""
    standing, number = pair
    wanted = [(later, number) for later in _live_steps(ground, standing)]
    outs = ground.outs(standing)
    for rank in outs:
        behind = sets.behind(number, rank)
        if behind is None:
            return None
        wanted.append((outs[rank][1], behind))
    return wanted


def _live_steps(ground, standing):
    """The standings without wagons in dead cells to which one in or road move leads."""
    return [later for _, later in ground.steps(standing) if ground.is_live(later)]


def is_within(inner, outer, thing):
    """Whether a value, which may be anything, is a within paper of two yards."""
    check_yard(inner)
    check_yard(outer)
    ground, other = Standings(inner), Standings(outer)
    if not isinstance(thing, list):
        return False
    if not all([_is_pair(pair, inner, outer, other) for pair in thing]):
        return False
    pairs = {pair: True for pair in thing}
    if (ground.empty(), other.first_set()) not in pairs:
        return False
    return all([_has_wanted(ground, other, pairs, standing, row) for standing, row in pairs])


def _is_pair(thing, inner, outer, other):
    """Whether a value is a (standing, set) as they stand in within papers."""
    if not isinstance(thing, tuple) or len(thing) != 2:
        return False
    standing, row = thing
    if not is_standing(standing, inner.cells) or not isinstance(row, tuple) or len(row) == 0:
        return False
    return all([is_standing(item, outer.cells) and other.is_live(item) for item in row])


def _has_wanted(ground, other, pairs, standing, row):
    """Whether all that one pair of a paper asks for is among the pairs."""
    if not all([(later, row) in pairs for later in _live_steps(ground, standing)]):
        return False
    outs = ground.outs(standing)
    return all([(outs[rank][1], other.behind(row, rank)) in pairs for rank in outs])


def parted(first, second, order):
    """None if one yard behind another does not make an order, otherwise (p, s), an order for each."""
    check_yard(first)
    check_yard(second)
    check_order(order)
    moves = fewest_moves(first + second, order)
    if moves is None:
        return None
    crossed = _crossed(moves, first.cells)
    return crossed, tuple([crossed.index(wagon) + 1 for wagon in order])


def _crossed(moves, border):
    """The wagons as they pass, in a run, from cells below a border to others."""
    inside = {}
    come, crossed = 0, []
    for move in moves:
        if move[0] == "in":
            come += 1
            inside[move[1]] = come
        if move[0] == "road":
            inside[move[2]] = inside[move[1]]
            if move[1] < border <= move[2]:
                crossed.append(inside[move[2]])
    return tuple(crossed)
