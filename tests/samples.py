"""What several tests use: values of all kinds, some yards, and their orders by trying."""

from cellyards.yards import Yard


def nested(depth, kind):
    """A list or tuple within another one, and so on, depth of them."""
    thing = kind()
    for _ in range(depth - 1):
        thing = kind([thing])
    return thing


def nested_dict(depth):
    thing = {}
    for _ in range(depth - 1):
        thing = {"in": thing}
    return thing


BIG = 10 ** 99

NOT_INTEGERS = [
    None, True, False, "", "1", "0 1\n~", (), (1,), [], [0], {}, {"a": 1},
    nested(60, list), nested(60, tuple), nested_dict(60), Yard(1), [Yard(2)], {"yard": Yard(2)},
]
INTEGERS = [0, 1, 2, -1, BIG, -BIG]
NOT_LISTS = [
    None, True, False, 0, 1, -1, BIG, "", "01", "ab", {}, {"a": (0, 1)}, nested_dict(60), Yard(1),
]
NOT_ORDERS = [
    (0,), (2,), (-1,), (1, 1), (1, 3), (0, 1), (2, 3), (1, 2, 2), (2, 2, 2), (1, 2, 4), (-1, 1),
    (True,), (True, 2), (2, True), (2, 1, False), (1, None), (1, "2"), (1, (2,)), (1, [2]),
    ("1",), ((),), ([],), ({},), ((1,),), (1, BIG), (BIG,), [1], [1, 2], [2, 1], [], (1, (2, 1)),
]
THINGS = NOT_INTEGERS + INTEGERS + [list(range(20000)), tuple(range(20000)), ["x"] * 20000]


def stub(cells):
    """Wagons stand behind one another, and the last one in is the first one out."""
    roads = [(x, x + 1) for x in range(cells - 1)] + [(x + 1, x) for x in range(cells - 1)]
    return Yard(cells, roads=roads, entries=[0], exits=[0])


def lane(cells):
    return Yard(cells, roads=[(x, x + 1) for x in range(cells - 1)], entries=[0], exits=[cells - 1])


def counter(cells):
    """Each place is an entry and an exit."""
    return Yard(cells, entries=list(range(cells)), exits=list(range(cells)))


def turntable():
    return Yard(3, roads=[(0, 1), (1, 2), (2, 0)], entries=[0, 1], exits=[2])


def siding():
    """A lane with a cell beside it, and one more cell that is dead."""
    roads = [(0, 1), (1, 2), (2, 1), (1, 3)]
    return Yard(4, roads=roads, entries=[0, 2], exits=[1])


def loops():
    """A yard that has families of patterns."""
    return Yard(4, roads=[(0, 3), (1, 2), (2, 0)], entries=[0, 1], exits=[2, 3])


def many_lines():
    """The yard of 4 cells whose patterns take the most to find: a family."""
    return Yard(4, roads=[(0, 1), (0, 3), (1, 2)], entries=[0, 1], exits=[0, 2, 3])


def many_sets():
    """The yard of 4 cells with the most sets, 34, and the longest rule."""
    return Yard(4, roads=[(0, 2), (1, 0)], entries=[0, 1, 3], exits=[1, 2, 3])


def rich_yards():
    """Yards with many sets, long rules, long patterns or families of patterns."""
    return [
        loops(), many_lines(), many_sets(),
        Yard(3, roads=[(0, 2), (1, 0)], entries=[0, 1], exits=[1, 2]),
        Yard(4, roads=[(0, 2), (0, 3), (1, 0)], entries=[1, 2, 3], exits=[2, 3]),
        Yard(4, roads=[(0, 1), (0, 3), (1, 2), (2, 1), (3, 0)], entries=[0, 2], exits=[2, 3]),
        Yard(4, roads=[(0, 1), (0, 2), (1, 3), (2, 0)], entries=[0, 1], exits=[0, 2, 3]),
        Yard(4, roads=[(0, 3), (1, 2), (2, 1), (3, 0)], entries=[0, 1], exits=[0, 2, 3]),
        Yard(4, roads=[(0, 2), (1, 0), (1, 3), (2, 0)], entries=[0, 1, 3], exits=[1, 2, 3]),
        Yard(4, roads=[(0, 3), (1, 2), (2, 0), (3, 0)], entries=[1, 3], exits=[0, 1, 2]),
        Yard(4, roads=[(0, 2), (0, 3), (1, 2), (2, 0)], entries=[1, 2, 3], exits=[0, 1, 3]),
        Yard(4, roads=[(0, 2), (0, 3), (1, 0), (1, 2)], entries=[0, 1], exits=[1, 2, 3]),
        Yard(4, roads=[(0, 1), (0, 2), (1, 2), (3, 1)], entries=[0, 2, 3], exits=[2]),
        Yard(4, roads=[(2, 0), (3, 2)], entries=[1, 3], exits=[0, 1, 3]),
    ]


def no_way_yards():
    """Yards through which no wagon passes."""
    return [Yard(1), Yard(1, entries=[0]), Yard(1, exits=[0]), Yard(3, roads=[(0, 1), (1, 2)], entries=[0])]


def dead_end_yards():
    """Yards with dead cells, with entries and exits among them and beside them."""
    return [
        Yard(2, entries=[0, 1], exits=[0]),
        Yard(2, roads=[(0, 1)], entries=[0], exits=[0]),
        Yard(3, roads=[(0, 1), (1, 2)], entries=[0, 2], exits=[0]),
        Yard(3, roads=[(0, 1), (1, 0), (0, 2)], entries=[0, 2], exits=[0]),
        Yard(4, roads=[(0, 1), (1, 2), (2, 1), (0, 3)], entries=[0, 3], exits=[1, 2]),
        siding(),
    ]


def bad_yards():
    """Yards that cannot be led blind."""
    return [
        Yard(3, roads=[(0, 2), (1, 0)], entries=[0, 1], exits=[1, 2]),
        Yard(3, roads=[(0, 1), (1, 0), (1, 2), (2, 1)], entries=[0, 1], exits=[0]),
        Yard(3, roads=[(0, 1), (0, 2), (2, 1)], entries=[0], exits=[0, 1]),
        # One of each with a dead cell, which is an entry, too, in the second one.
        Yard(4, roads=[(1, 0), (2, 0), (2, 3), (3, 1)], entries=[1, 2, 3], exits=[1]),
        Yard(4, roads=[(0, 2), (0, 3), (1, 2), (1, 3), (3, 1), (3, 2)], entries=[0, 1, 2], exits=[0, 3]),
        # Some of these are lost only after two or three more ranks.
        Yard(4, roads=[(0, 1), (0, 2), (0, 3), (2, 1), (3, 0)], entries=[0, 1, 2], exits=[0, 1]),
        Yard(4, roads=[(0, 2), (1, 0), (1, 3), (2, 0), (2, 1)], entries=[2, 3], exits=[0, 3]),
    ]


def full(cells):
    """All roads, and each cell an entry and an exit."""
    ends = list(range(cells))
    roads = [(x, y) for x in ends for y in ends if x != y]
    return Yard(cells, roads=roads, entries=ends, exits=ends)


def yard_by_number(cells, number):
    """The yards of so many cells, each one under a number below 2 ** (cells * (cells + 1))."""
    ways = [(x, y) for x in range(cells) for y in range(cells) if x != y]
    roads = [way for at, way in enumerate(ways) if number >> at & 1]
    number >>= len(ways)
    entries = [x for x in range(cells) if number >> x & 1]
    exits = [x for x in range(cells) if number >> (cells + x) & 1]
    return Yard(cells, roads=roads, entries=entries, exits=exits)


def small_yards():
    """All yards of one and of two cells."""
    one = [yard_by_number(1, number) for number in range(4)]
    return one + [yard_by_number(2, number) for number in range(64)]


def mixed_yards(step_of_3=97, step_of_4=30011):
    """Yards of three and four cells from all over."""
    three = [yard_by_number(3, number) for number in range(5, 4096, step_of_3)]
    return three + [yard_by_number(4, number) for number in range(7, 2 ** 20, step_of_4)]


def sample_yards():
    return [
        Yard(1), Yard(1, entries=[0]), Yard(1, exits=[0]), Yard(1, entries=[0], exits=[0]),
        Yard(2, roads=[(0, 1)]), stub(2), stub(3), lane(2), lane(3), counter(2), counter(3),
        turntable(), siding(), Yard(2, roads=[(0, 1)], entries=[0, 1], exits=[0, 1]),
    ]


def moves_from(yard, state, n):
    """All (cells, wagons that came in, wagons that went out) one move behind a state."""
    cells, come, gone = state
    for x in yard.entries:
        if cells[x] == 0 and come < n:
            yield cells[:x] + (come + 1,) + cells[x + 1:], come + 1, gone
    for x, y in yard.roads:
        if cells[x] != 0 and cells[y] == 0:
            moved = list(cells)
            moved[x], moved[y] = 0, cells[x]
            yield tuple(moved), come, gone
    for x in yard.exits:
        if cells[x] != 0:
            yield cells[:x] + (0,) + cells[x + 1:], come, gone + (cells[x],)


def reached_from(yard, states, n):
    found = set(states)
    waiting = list(states)
    while waiting:
        for state in moves_from(yard, waiting.pop(), n):
            if state not in found:
                found.add(state)
                waiting.append(state)
    return found


TRIED = {}


def parts_of(yard):
    return yard.cells, yard.roads, yard.entries, yard.exits


def orders_by_trying(yard, n):
    """The orders of n wagons that a yard makes, by trying all moves."""
    key = parts_of(yard), n
    if key not in TRIED:
        start = ((0,) * yard.cells, 0, ())
        found = reached_from(yard, [start], n)
        TRIED[key] = frozenset(gone for cells, come, gone in found if len(gone) == n)
    return TRIED[key]


def steps_along(yard, many):
    """A long row of moves of a yard, always another one of the possible ones, by a fixed rule."""
    inside, come, moves, turn = [0] * yard.cells, 0, [], 1
    while len(moves) < many:
        ways = [("in", x) for x in yard.entries if not inside[x]]
        ways += [("road", x, y) for x, y in yard.roads if inside[x] and not inside[y]]
        ways += [("out", x) for x in yard.exits if inside[x]]
        if not ways:
            break
        turn = turn * 1103515245 % 2 ** 31 + 12345
        move = ways[turn // 2 ** 16 % len(ways)]
        wagon = come + 1 if move[0] == "in" else inside[move[1]]
        come += move[0] == "in"
        inside[move[1]] = 0
        if move[0] != "out":
            inside[move[-1]] = wagon
        moves.append(move)
    return moves
