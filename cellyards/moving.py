"""Runs of a yard, and bars that show that there is none."""

from cellyards.checks import is_integer, is_list
from cellyards.errors import InvalidMove
from cellyards.orders import check_order, ranks_of
from cellyards.sets import Sets
from cellyards.standings import Standings, is_standing
from cellyards.yards import check_yard


def is_move(yard, thing):
    """Whether a value, which may be anything, is a move with an entry, a road or an exit of a yard."""
    if not isinstance(thing, tuple) or len(thing) not in (2, 3):
        return False
    name, cells = thing[0], thing[1:]
    if not all([is_integer(cell) for cell in cells]):
        return False
    if len(cells) == 2:
        return name == "road" and cells in yard.roads
    if name == "in":
        return cells[0] in yard.entries
    return name == "out" and cells[0] in yard.exits


def is_run(yard, thing):
    """Whether a value, which may be anything, is a run of a yard."""
    check_yard(yard)
    return _gone_out(yard, thing) is not None


def order_made(yard, moves):
    """The order of a run."""
    check_yard(yard)
    order = _gone_out(yard, moves)
    if order is None:
        raise InvalidMove(moves)
    return order


def _gone_out(yard, thing):
    """The wagons as they go out in a run, or None if a value is no run."""
    if not is_list(thing):
        return None
    inside = [0] * yard.cells
    come, gone = 0, []
    for move in thing:
        if not is_move(yard, move) or cell_in_the_way(inside, move) is not None:
            return None
        if move[0] == "in":
            come += 1
            inside[move[1]] = come
        elif move[0] == "road":
            inside[move[2]] = inside[move[1]]
            inside[move[1]] = 0
        else:
            gone.append(inside[move[1]])
            inside[move[1]] = 0
    return tuple(gone) if len(gone) == come else None


def cell_in_the_way(inside, move):
    """The cell that is in the way of a move of the yard, or None if it is possible.

    The wagons that are inside are told for each cell, 0 where there is none.
    """
    name, begin, end = move[0], move[1], move[-1]
    if name == "in":
        return begin if inside[begin] != 0 else None
    if inside[begin] == 0:
        return begin
    return end if name == "road" and inside[end] != 0 else None


def fewest_moves(yard, order):
    """None if a yard does not make an order, otherwise a run of as few moves as can be."""
    check_yard(yard)
    check_order(order)
    ground = Standings(yard)
    ranks = ranks_of(order)
    start, end = (0, ground.empty()), (len(ranks), ground.empty())
    reached = {start: None}
    waiting = [start]
    looked_at = 0
    # What takes fewer moves is looked at first, so the first way to each state is shortest.
    while end not in reached and looked_at < len(waiting):
        state = waiting[looked_at]
        looked_at += 1
        for move, later in _onwards(ground, ranks, state):
            if later not in reached:
                reached[later] = (state, move)
                waiting.append(later)
    return _way_to(end, reached) if end in reached else None


def _onwards(ground, ranks, state):
    """A list of (move, state behind it), a state being (how many wagons went out, standing)."""
    gone, standing = state
    steps = [(move, later) for move, later in ground.steps(standing) if gone + max(later) <= len(ranks)]
    onwards = [(move, (gone, later)) for move, later in steps]
    outs = ground.outs(standing)
    # Only at the end, behind which nothing is looked at, is no rank left.
    if ranks[gone] in outs:
        move, left = outs[ranks[gone]]
        onwards.append((move, (gone + 1, left)))
    return onwards


def _way_to(end, reached):
    moves = []
    state = end
    while reached[state] is not None:
        state, move = reached[state]
        moves.append(move)
    return moves[::-1]


def can(yard, order):
    """Whether a yard makes an order."""
    check_yard(yard)
    check_order(order)
    return Sets(yard).after(ranks_of(order)) is not None


def bar(yard, order):
    """None if a yard makes an order, otherwise a bar of it."""
    check_yard(yard)
    check_order(order)
    ground = Standings(yard)
    rows = [ground.closed([ground.empty()])]
    for rank in ranks_of(order):
        rows.append(ground.closed(ground.left_behind(rows[-1], rank)))
        if len(rows[-1]) == 0:
            return [list(row) for row in rows]
    return None


def is_bar(yard, order, thing):
    """Whether a value, which may be anything, is a bar of an order."""
    check_yard(yard)
    check_order(order)
    if not isinstance(thing, list) or not 1 <= len(thing) <= len(order) + 1:
        return False
    if not all([_is_row(row, yard.cells) for row in thing]):
        return False
    ground = Standings(yard)
    rows = [{standing: True for standing in row} for row in thing]
    if ground.empty() not in rows[0] or len(rows[-1]) > 0:
        return False
    if not all([_holds_steps(ground, row) for row in rows]):
        return False
    ranks = ranks_of(order)
    return all([_holds_left(ground, rows, ranks, at) for at in range(1, len(rows))])


def _is_row(thing, cells):
    return isinstance(thing, list) and all([is_standing(standing, cells) for standing in thing])


def _holds_steps(ground, row):
    """Whether a row holds each standing to which one of its own leads."""
    return all([later in row for standing in row for _, later in ground.steps(standing)])


def _holds_left(ground, rows, ranks, at):
    """Whether the row at a place holds what the one before it leaves."""
    left = ground.left_behind(rows[at - 1], ranks[at - 1])
    return all([standing in rows[at] for standing in left])
