"""How many waiting wagons others can pass, and how they do so again and again.

Which moves are possible hangs on the cells that are taken alone, not on which wagons stand
there. So moves that begin and end with the same cells taken can be made again and again,
also where the waiting wagons change their places. In such moves the wagon that goes out is
each time the one that has come in last, and each of the others waits.
"""

from cellyards.checks import check_number
from cellyards.sets import Sets
from cellyards.standings import Standings
from cellyards.yards import check_yard


def room(yard):
    """The greatest rank of the orders that a yard makes, less 1; None if it does not make (1,)."""
    check_yard(yard)
    table = Sets(yard).table()
    ranks = [rank for row in table for rank, later in enumerate(row) if later is not None]
    return max(ranks) - 1 if len(ranks) > 0 else None


def loop(yard, k):
    """A loop for k, (before, loop, after), or None if there is none."""
    check_yard(yard)
    check_number(k, 1)
    ground = Standings(yard)
    ways = _ways(ground, ground.empty(), k)
    for standing in ways:
        turn = _turn(ground, standing) if max(standing) == k else None
        if turn is not None:
            return ways[standing], turn, _way_out(ground, standing)
    return None


def _ways(ground, start, most):
    """For each standing of at most so many wagons to which in and road moves lead, these moves.

    No wagon comes into a dead cell. Short ways stand first.
    """
    ways = {start: ()}
    waiting = [start]
    looked_at = 0
    while looked_at < len(waiting):
        standing = waiting[looked_at]
        looked_at += 1
        for move, later in ground.steps(standing):
            if later not in ways and max(later) <= most and ground.is_live(later):
                ways[later] = ways[standing] + (move,)
                waiting.append(later)
    return ways


def _turn(ground, standing):
    """Moves by which a wagon comes in, passes all of a standing and goes out, or None.

    The same cells are taken at their end as at their beginning.
    """
    rank = max(standing) + 1
    ways = _ways(ground, standing, rank)
    for later in ways:
        outs = ground.outs(later)
        if rank in outs:
            move, left = outs[rank]
            if _taken(left) == _taken(standing):
                return ways[later] + (move,)
    return None


def _taken(standing):
    return [rank != 0 for rank in standing]


def _way_out(ground, standing):
    """Moves by which all wagons of a standing, none of them in a dead cell, go out."""
    moves = ()
    while max(standing) > 0:
        more, standing = _one_out(ground, standing)
        moves = moves + more
    return moves


def _one_out(ground, standing):
    """The fewest moves by which some wagon of a standing goes out, and what is left."""
    ways = _ways(ground, standing, max(standing))
    found = [(ways[later] + (move,), left) for later in ways for move, left in ground.outs(later).values()]
    return found[0]
