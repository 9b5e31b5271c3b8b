"""What the document defines, told anew for the tests, without anything of the package but yards.

Each judge goes by the words of the document alone, and not by how the package works.
"""

import itertools

from samples import orders_by_trying, parts_of


def is_whole(thing):
    """Whether a value is an integer, as the document says it."""
    return type(thing) is int


def dead_cells(yard):
    """The cells from which no row of roads leads to an exit."""
    alive = set(yard.exits)
    for _ in range(yard.cells):
        alive |= {x for x, y in yard.roads if y in alive}
    return set(range(yard.cells)) - alive


def is_live(yard, standing):
    return not any(standing[x] for x in dead_cells(yard))


def all_standings(cells):
    """All standings of a yard of so many cells, in order."""
    rows = itertools.product(range(cells + 1), repeat=cells)
    return [row for row in rows if is_standing(row, cells)]


def is_standing(thing, cells):
    if type(thing) is not tuple or len(thing) != cells or not all(map(is_whole, thing)):
        return False
    inside = [rank for rank in thing if rank != 0]
    return set(inside) == set(range(1, len(inside) + 1)) and len(set(inside)) == len(inside)


def one_move(yard, standing):
    """The standings to which a standing leads by one in or road move."""
    found = []
    many = sum(rank != 0 for rank in standing)
    for x in yard.entries:
        if standing[x] == 0:
            cells = list(standing)
            cells[x] = many + 1
            found.append(tuple(cells))
    for x, y in yard.roads:
        if standing[x] != 0 and standing[y] == 0:
            cells = list(standing)
            cells[x], cells[y] = cells[y], cells[x]
            found.append(tuple(cells))
    return found


def lets_out(yard, standing):
    """What is left of a standing, for each rank that it lets out."""
    found = {}
    for x in yard.exits:
        rank = standing[x]
        if rank != 0:
            cells = [other - (other > rank) for other in standing]
            cells[x] = 0
            found[rank] = tuple(cells)
    return found


def in_and_road(yard, standings):
    """The rising tuple of live standings and all live ones to which in and road moves lead."""
    found = set(standings)
    waiting = list(found)
    while waiting:
        for later in one_move(yard, waiting.pop()):
            if later not in found and is_live(yard, later):
                found.add(later)
                waiting.append(later)
    return tuple(sorted(found))


def first_set(yard):
    return in_and_road(yard, [(0,) * yard.cells])


def behind(yard, standings, rank):
    left = [lets_out(yard, standing).get(rank) for standing in standings]
    return in_and_road(yard, [standing for standing in left if standing is not None])


def played(yard, thing):
    """The order of a run, or None for what is no run."""
    if type(thing) not in (list, tuple):
        return None
    inside, come, gone = [0] * yard.cells, 0, []
    for move in thing:
        if type(move) is not tuple or len(move) < 2 or not all(map(is_whole, move[1:])):
            return None
        if move[0] == "in" and len(move) == 2 and move[1] in yard.entries and not inside[move[1]]:
            come += 1
            inside[move[1]] = come
        elif move[0] == "out" and len(move) == 2 and move[1] in yard.exits and inside[move[1]]:
            gone.append(inside[move[1]])
            inside[move[1]] = 0
        elif move[0] == "road" and move[1:] in yard.roads and inside[move[1]] and not inside[move[2]]:
            inside[move[2]], inside[move[1]] = inside[move[1]], 0
        else:
            return None
    return None if any(inside) else tuple(gone)


def ranks_by_words(order):
    return tuple(1 + sum(later < wagon for later in order[at:]) for at, wagon in enumerate(order))


def judged_bar(yard, order, thing):
    """Whether a value is a bar of an order."""
    if type(thing) is not list or not 1 <= len(thing) <= len(order) + 1:
        return False
    for row in thing:
        if type(row) is not list or not all(is_standing(item, yard.cells) for item in row):
            return False
    if (0,) * yard.cells not in thing[0] or thing[-1] != []:
        return False
    for row in thing:
        for standing in row:
            if not all(later in row for later in one_move(yard, standing)):
                return False
    ranks = ranks_by_words(order)
    for at in range(1, len(thing)):
        for standing in thing[at - 1]:
            left = lets_out(yard, standing).get(ranks[at - 1])
            if left is not None and left not in thing[at]:
                return False
    return True


def wanted_by(inner, outer, pair):
    """The pairs that one pair of a within paper asks for."""
    standing, row = pair
    wanted = [(later, row) for later in one_move(inner, standing) if is_live(inner, later)]
    for rank, left in lets_out(inner, standing).items():
        wanted.append((left, behind(outer, row, rank)))
    return wanted


def is_pair(inner, outer, thing):
    if type(thing) is not tuple or len(thing) != 2 or not is_standing(thing[0], inner.cells):
        return False
    if type(thing[1]) is not tuple or thing[1] == ():
        return False
    return all(is_standing(item, outer.cells) and is_live(outer, item) for item in thing[1])


def judged_paper(inner, outer, thing):
    """Whether a value is a within paper."""
    if type(thing) is not list or not all(is_pair(inner, outer, pair) for pair in thing):
        return False
    pairs = set(thing)
    if ((0,) * inner.cells, first_set(outer)) not in pairs:
        return False
    return all(wanted in pairs for pair in pairs for wanted in wanted_by(inner, outer, pair))


def whole(inner, outer, pairs):
    """Pairs of a within paper with all that they ask for, if no set becomes empty."""
    found = dict.fromkeys(pairs)
    waiting = list(found)
    while waiting:
        for pair in wanted_by(inner, outer, waiting.pop()):
            if pair not in found:
                found[pair] = None
                waiting.append(pair)
    return list(found)


def proved_within(inner, outer):
    """Whether one yard is within another one: whether all that must stand in a paper is one."""
    return judged_paper(inner, outer, whole(inner, outer, [((0,) * inner.cells, first_set(outer))]))


def all_orders(n):
    return list(itertools.permutations(range(1, n + 1)))


def without_place(order, at):
    others = order[:at] + order[at + 1:]
    return tuple(wagon - (wagon > order[at]) for wagon in others)


def patterns_by_trying(yard, n):
    """The patterns of n wagons, in order."""
    if n == 0:
        return []
    made, fewer = orders_by_trying(yard, n), orders_by_trying(yard, n - 1)
    return [
        order for order in all_orders(n)
        if order not in made and all(without_place(order, at) in fewer for at in range(n))
    ]


def first_difference(inner, outer, most):
    """The first order of at most so many wagons that one yard makes and another one does not."""
    for n in range(most + 1):
        more = orders_by_trying(inner, n) - orders_by_trying(outer, n)
        if more:
            return min(more)
    return None


def greatest_rank(yard, most):
    """The greatest rank in the orders of at most so many wagons, 0 if there is none."""
    orders = [order for n in range(most + 1) for order in orders_by_trying(yard, n)]
    return max([0, *[rank for order in orders for rank in ranks_by_words(order)]])


def judged_loop(yard, k, thing):
    """Whether a value is a loop for k, as far as it is told by going round it up to three times."""
    before, loop, after = thing
    for t in range(4):
        order = played(yard, before + loop * t + after)
        if order is None or len(order) != t + k or ranks_by_words(order)[:t] != (k + 1,) * t:
            return False
    return True


KNOWN = {}


def kept(call):
    """A function of a yard and things that can be keys, whose answers are kept."""
    def known(yard, *things):
        key = call.__name__, parts_of(yard), things
        if key not in KNOWN:
            KNOWN[key] = call(yard, *things)
        return KNOWN[key]
    return known


@kept
def set_behind(yard, row, rank):
    return behind(yard, row, rank)


@kept
def ranks_let_out(yard, row):
    """The ranks that members of a set let out."""
    return sorted({rank for standing in row for rank in lets_out(yard, standing)})


@kept
def left_by(yard, standing, rank):
    """What may be left of a standing behind in and road moves, none into dead cells, and a rank."""
    reached = in_and_road(yard, [standing])
    return [lets_out(yard, later)[rank] for later in reached if rank in lets_out(yard, later)]


@kept
def sets_of(yard):
    """All sets of a yard that are not empty."""
    found = {first_set(yard)}
    waiting = list(found)
    while waiting:
        row = waiting.pop()
        later = {set_behind(yard, row, rank) for rank in ranks_let_out(yard, row)} - found
        found |= later
        waiting.extend(later)
    return found


def is_rows(thing):
    """Whether a value is a tuple of tuples of integers."""
    return type(thing) is tuple and all(type(row) is tuple and all(map(is_whole, row)) for row in thing)


def judged_good(yard, pairs):
    """Whether a value is the pairs of a good paper."""
    if type(pairs) is not tuple:
        return False
    lots = {}
    for pair in pairs:
        if type(pair) is not tuple or len(pair) != 2 or not all(map(is_rows, pair)):
            return False
        row, lot = pair
        rising = all(a < b for a, b in zip(lot, lot[1:]))
        if row not in sets_of(yard) or not set(lot) <= set(row) or not rising or row in lots:
            return False
        lots[row] = lot
    if (0,) * yard.cells not in lots.get(first_set(yard), ()):
        return False
    return all(
        any(left in lots.get(set_behind(yard, row, rank), ()) for left in left_by(yard, standing, rank))
        for row, lot in lots.items() for standing in lot for rank in ranks_let_out(yard, row)
    )


def judged_bad(yard, rows):
    """Whether a value is the rows of a bad paper."""
    if type(rows) is not tuple:
        return False
    heights = {}
    for thing in rows:
        if type(thing) is not tuple or len(thing) != 4:
            return False
        row, standing, rank, height = thing
        if not is_rows(row) or not is_rows((standing,)) or not is_whole(rank) or not is_whole(height):
            return False
        if row not in sets_of(yard) or standing not in row or rank not in ranks_let_out(yard, row) or height < 0:
            return False
        heights.setdefault((row, standing), []).append(height)
    if (first_set(yard), (0,) * yard.cells) not in heights:
        return False
    return all(
        any(lesser < height for lesser in heights.get((set_behind(yard, row, rank), left), []))
        for row, standing, rank, height in rows for left in left_by(yard, standing, rank)
    )


def judged_blind_paper(yard, thing):
    """Whether a value is a blind paper."""
    if type(thing) is not tuple or len(thing) != 2 or type(thing[0]) is not str:
        return False
    kind, part = thing
    return kind == "good" and judged_good(yard, part) or kind == "bad" and judged_bad(yard, part)


@kept
def led(yard, row, standing, many):
    """Whether so many ranks, whatever they are, can be let out from a standing, each one told late."""
    return many == 0 or all(
        any(led(yard, set_behind(yard, row, rank), left, many - 1) for left in left_by(yard, standing, rank))
        for rank in ranks_let_out(yard, row)
    )


def led_for(yard, many):
    """Whether so many ranks can be let out of the yard, each one told when the one before is out."""
    return led(yard, first_set(yard), (0,) * yard.cells, many)
