"""Patterns: the orders that a yard does not make, though it makes those with a wagon less.

A row of ranks is followed together with all that comes of it by leaving one wagon out. A
line tells how far it is, as numbers of sets: (now, needed, gone).
- now: the set for the ranks so far, None once it is empty.
- needed: for each wagon that is still to go out and lesser than one that went out, the
  least one first, the set for the ranks so far with this wagon left out.
- gone: the sets for the ranks so far with one of the wagons left out that went out. Of
  these only the least ones count, by what can go on from them.
As soon as the set for the ranks so far is empty, none but the needed wagons go out: the
yard does not make the order even without the others.
"""

from cellyards.checks import check_number
from cellyards.orders import check_order, left_out, order_of, ranks_of
from cellyards.sets import Sets
from cellyards.yards import check_yard

START = (0, (), ())
END = "end"


def is_pattern(yard, order):
    """Whether an order is a pattern of a yard."""
    check_yard(yard)
    check_order(order)
    sets = Sets(yard)
    if sets.after(ranks_of(order)) is not None:
        return False
    others = [left_out(order, place) for place in range(len(order))]
    return all([sets.after(ranks_of(other)) is not None for other in others])


def patterns_of(yard, n):
    """The list of the patterns of n wagons, in order."""
    check_yard(yard)
    check_number(n, 0)
    words = _words(_lines(yard), n)
    return [order_of(ranks) for ranks in words if len(ranks) == n]


def patterns(yard):
    """("all", all patterns) if there are finitely many, otherwise ("family", one of their families)."""
    check_yard(yard)
    edges = _lines(yard)
    ring = _ring(edges)
    if ring is None:
        # No line comes twice in a word, so none is longer than there are lines.
        return "all", tuple([order_of(ranks) for ranks in _words(edges, len(edges))])
    line, ranks = ring
    return "family", (_way(edges, START, line), ranks, _way(edges, line, END))


def _lines(yard):
    """For each line the list of (rank, line behind it, or END), where a pattern can be behind."""
    table = Sets(yard).table()
    below = _below(table)
    table = _with_one_of_alike(table, below)
    edges = {}
    waiting = [START]
    while waiting:
        line = waiting.pop()
        if line not in edges:
            edges[line] = _edges(table, below, line)
            waiting.extend([later for _, later in edges[line] if later != END])
    return _leading_to_end(edges)


def _below(table):
    """For each two sets whether each row of ranks that can go on from the one can from the other."""
    numbers = range(len(table))
    below = [[True] * len(table) for _ in numbers]
    changed = True
    while changed:
        changed = False
        for a in numbers:
            for b in numbers:
                if below[a][b] and not _goes_on(below, table[a], table[b]):
                    below[a][b] = False
                    changed = True
    return below


def _goes_on(below, row, other):
    """Whether all that is behind one set has its like behind another one, as far as is known."""
    pairs = [(x, y) for x, y in zip(row, other) if x is not None]
    return all([y is not None and below[x][y] for x, y in pairs])


def _with_one_of_alike(table, below):
    """The table with the first one for all sets from which the same rows of ranks can go on."""
    numbers = range(len(table))
    first = [min([a for a in numbers if below[a][b] and below[b][a]]) for b in numbers]
    return [[None if later is None else first[later] for later in row] for row in table]


def _edges(table, below, line):
    """The list of (rank, line behind it, or END), those left out that never become a pattern."""
    now, needed, _ = line
    most = len(needed) if now is None else len(table[now]) - 1
    edges = []
    for rank in range(1, most + 1):
        later = _behind(table, below, line, rank)
        if later is not None:
            edges.append((rank, later))
    return edges


def _behind(table, below, line, rank):
    """The line behind a line and a rank, END if a pattern is whole, None if it becomes none."""
    now, needed, gone = line
    many = max(len(needed), rank) - 1
    # Leaving out a wagon that is greater than all that went out changes no rank so far.
    without = needed + (now,) * rank
    later = _after(table, now, rank)
    lesser = [_after(table, number, rank - 1) for number in without[:rank - 1]]
    greater = [_after(table, number, rank) for number in without[rank:many + 1]]
    left = [_after(table, number, rank) for number in gone] + [without[rank - 1]]
    if None in lesser + greater + left:
        return None
    # Where the yard stops, it would stop with this wagon left out as well.
    if later is not None and any([below[number][later] for number in left]):
        return None
    if later is None and many == 0:
        return END
    return later, tuple(lesser + greater), _least(below, left)


def _after(table, number, rank):
    return None if number is None else table[number][rank]


def _least(below, numbers):
    """The rising tuple of those from which no more can go on than from others, alike ones once."""
    once = sorted(set(numbers))
    return tuple([a for a in once if not any([below[b][a] for b in once if b != a])])


def _leading_to_end(edges):
    """The lines with what is behind them, without what never leads to END."""
    good = {END: True}
    known = 0
    while known < len(good):
        known = len(good)
        for line in edges:
            if any([later in good for _, later in edges[line]]):
                good[line] = True
    return {line: [(rank, later) for rank, later in edges[line] if later in good] for line in edges}


def _words(edges, most):
    """The rows of at most so many ranks that lead to END, short ones first, then in order."""
    found = []
    words = [((), START)]
    for _ in range(most):
        longer = [(ranks + (rank,), later) for ranks, line in words for rank, later in edges[line]]
        found.extend([ranks for ranks, line in longer if line == END])
        words = [(ranks, line) for ranks, line in longer if line != END]
    return found


def _ring(edges):
    """A (line, ranks that lead back to it), or None if there is none."""
    kept = {line: True for line in edges}
    known = len(kept) + 1
    # A line with nothing behind it that is left is on no ring.
    while len(kept) < known:
        known = len(kept)
        kept = {line: True for line in kept if any([later in kept for _, later in edges[line]])}
    if len(kept) == 0:
        return None
    places, ranks = {}, []
    line = list(kept)[0]
    while line not in places:
        places[line] = len(ranks)
        onwards = [edge for edge in edges[line] if edge[1] in kept]
        rank, line = onwards[0]
        ranks.append(rank)
    return line, tuple(ranks[places[line]:])


def _way(edges, start, end):
    """A shortest row of ranks that leads from one line to another one, or to END."""
    ways = {start: ()}
    waiting = [start]
    looked_at = 0
    while end not in ways:
        line = waiting[looked_at]
        looked_at += 1
        for rank, later in edges.get(line, []):
            if later not in ways:
                ways[later] = ways[line] + (rank,)
                waiting.append(later)
    return ways[end]
