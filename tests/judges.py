"""What the document defines, told anew for the tests, without anything of the package but yards.

Each judge goes by the words of the document alone, and not by how the package works.
"""

import itertools

from samples import orders_by_trying


def is_whole(thing):
    """Whether a value is an integer, as the document says it."""
    return type(thing) is int


def dead_cells(yard):
    """The cells from which no row of roads leads to an exit."""
    alive = set(yard.exits)
    for _ in range(yard.cells):
        alive |= {x for x, y in yard.roads if y in alive}
    return set(range(yard.cells)) - alive


def is_live(yard, standing):
    return not any(standing[x] for x in dead_cells(yard))


def all_standings(cells):
    """All standings of a yard of so many cells, in order."""
    rows = itertools.product(range(cells + 1), repeat=cells)
    return [row for row in rows if is_standing(row, cells)]


def is_standing(thing, cells):
    if type(thing) is not tuple or len(thing) != cells or not all(map(is_whole, thing)):
        return False
    inside = [rank for rank in thing if rank != 0]
    return set(inside) == set(range(1, len(inside) + 1)) and len(set(inside)) == len(inside)


def one_move(yard, standing):
    """The standings to which a standing leads by one in or road move."""
    found = []
    many = sum(rank != 0 for rank in standing)
    for x in yard.entries:
        if standing[x] == 0:
            cells = list(standing)
            cells[x] = many + 1
            found.append(tuple(cells))
    for x, y in yard.roads:
        if standing[x] != 0 and standing[y] == 0:
            cells = list(standing)
            cells[x], cells[y] = cells[y], cells[x]
            found.append(tuple(cells))
    return found


def lets_out(yard, standing):
    """What is left of a standing, for each rank that it lets out."""
    found = {}
    for x in yard.exits:
        rank = standing[x]
        if rank != 0:
            cells = [other - (other > rank) for other in standing]
            cells[x] = 0
            found[rank] = tuple(cells)
    return found


def in_and_road(yard, standings):
    """The rising tuple of live standings and all live ones to which in and road moves lead."""
    found = set(standings)
    waiting = list(found)
    while waiting:
        for later in one_move(yard, waiting.pop()):
            if later not in found and is_live(yard, later):
                found.add(later)
                waiting.append(later)
    return tuple(sorted(found))


def first_set(yard):
    return in_and_road(yard, [(0,) * yard.cells])


def behind(yard, standings, rank):
    left = [lets_out(yard, standing).get(rank) for standing in standings]
    return in_and_road(yard, [standing for standing in left if standing is not None])


def played(yard, thing):
    """The order of a run, or None for what is no run."""
    if type(thing) not in (list, tuple):
        return None
    inside, come, gone = [0] * yard.cells, 0, []
    for move in thing:
        if type(move) is not tuple or len(move) < 2 or not all(map(is_whole, move[1:])):
            return None
        if move[0] == "in" and len(move) == 2 and move[1] in yard.entries and not inside[move[1]]:
            come += 1
            inside[move[1]] = come
        elif move[0] == "out" and len(move) == 2 and move[1] in yard.exits and inside[move[1]]:
            gone.append(inside[move[1]])
            inside[move[1]] = 0
        elif move[0] == "road" and move[1:] in yard.roads and inside[move[1]] and not inside[move[2]]:
            inside[move[2]], inside[move[1]] = inside[move[1]], 0
        else:
            return None
    return None if any(inside) else tuple(gone)


def ranks_by_words(order):
    return tuple(1 + sum(later < wagon for later in order[at:]) for at, wagon in enumerate(order))


def judged_bar(yard, order, thing):
    """Whether a value is a bar of an order."""
    if type(thing) is not list or not 1 <= len(thing) <= len(order) + 1:
        return False
    for row in thing:
        if type(row) is not list or not all(is_standing(item, yard.cells) for item in row):
            return False
    if (0,) * yard.cells not in thing[0] or thing[-1] != []:
        return False
    for row in thing:
        for standing in row:
            if not all(later in row for later in one_move(yard, standing)):
                return False
    ranks = ranks_by_words(order)
    for at in range(1, len(thing)):
        for standing in thing[at - 1]:
            left = lets_out(yard, standing).get(ranks[at - 1])
            if left is not None and left not in thing[at]:
                return False
    return True


def wanted_by(inner, outer, pair):
    """The pairs that one pair of a within paper asks for."""
    standing, row = pair
    wanted = [(later, row) for later in one_move(inner, standing) if is_live(inner, later)]
    for rank, left in lets_out(inner, standing).items():
        wanted.append((left, behind(outer, row, rank)))
    return wanted


def is_pair(inner, outer, thing):
    if type(thing) is not tuple or len(thing) != 2 or not is_standing(thing[0], inner.cells):
        return False
    if type(thing[1]) is not tuple or thing[1] == ():
        return False
    return all(is_standing(item, outer.cells) and is_live(outer, item) for item in thing[1])


def judged_paper(inner, outer, thing):
    """Whether a value is a within paper."""
    if type(thing) is not list or not all(is_pair(inner, outer, pair) for pair in thing):
        return False
    pairs = set(thing)
    if ((0,) * inner.cells, first_set(outer)) not in pairs:
        return False
    return all(wanted in pairs for pair in pairs for wanted in wanted_by(inner, outer, pair))


def all_orders(n):
    return list(itertools.permutations(range(1, n + 1)))


def without_place(order, at):
    others = order[:at] + order[at + 1:]
    return tuple(wagon - (wagon > order[at]) for wagon in others)


def patterns_by_trying(yard, n):
    """The patterns of n wagons, in order."""
    if n == 0:
        return []
    made, fewer = orders_by_trying(yard, n), orders_by_trying(yard, n - 1)
    return [
        order for order in all_orders(n)
        if order not in made and all(without_place(order, at) in fewer for at in range(n))
    ]


def first_difference(inner, outer, most):
    """The first order of at most so many wagons that one yard makes and another one does not."""
    for n in range(most + 1):
        more = orders_by_trying(inner, n) - orders_by_trying(outer, n)
        if more:
            return min(more)
    return None
