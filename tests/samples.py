"""What several tests use: values of all kinds, some yards, and their orders by trying."""

from cellyards.yards import Yard


def nested(depth, kind):
    """A list or tuple within another one, and so on, depth of them."""
    thing = kind()
    for _ in range(depth - 1):
        thing = kind([thing])
    return thing


def nested_dict(depth):
    thing = {}
    for _ in range(depth - 1):
        thing = {"in": thing}
    return thing


BIG = 10 ** 99

NOT_INTEGERS = [
    None, True, False, "", "1", "0 1\n~", (), (1,), [], [0], {}, {"a": 1},
    nested(60, list), nested(60, tuple), nested_dict(60), Yard(1), [Yard(2)], {"yard": Yard(2)},
]
INTEGERS = [0, 1, 2, -1, BIG, -BIG]
NOT_LISTS = [
    None, True, False, 0, 1, -1, BIG, "", "01", "ab", {}, {"a": (0, 1)}, nested_dict(60), Yard(1),
]
THINGS = NOT_INTEGERS + INTEGERS + [list(range(20000)), tuple(range(20000)), ["x"] * 20000]


def stub(cells):
    """Wagons stand behind one another, and the last one in is the first one out."""
    roads = [(x, x + 1) for x in range(cells - 1)] + [(x + 1, x) for x in range(cells - 1)]
    return Yard(cells, roads=roads, entries=[0], exits=[0])


def lane(cells):
    return Yard(cells, roads=[(x, x + 1) for x in range(cells - 1)], entries=[0], exits=[cells - 1])


def counter(cells):
    """Each place is an entry and an exit."""
    return Yard(cells, entries=list(range(cells)), exits=list(range(cells)))


def turntable():
    return Yard(3, roads=[(0, 1), (1, 2), (2, 0)], entries=[0, 1], exits=[2])


def siding():
    """A lane with a cell beside it, and one more cell that is dead."""
    roads = [(0, 1), (1, 2), (2, 1), (1, 3)]
    return Yard(4, roads=roads, entries=[0, 2], exits=[1])


def sample_yards():
    return [
        Yard(1), Yard(1, entries=[0]), Yard(1, exits=[0]), Yard(1, entries=[0], exits=[0]),
        Yard(2, roads=[(0, 1)]), stub(2), stub(3), lane(2), lane(3), counter(2), counter(3),
        turntable(), siding(), Yard(2, roads=[(0, 1)], entries=[0, 1], exits=[0, 1]),
    ]


def moves_from(yard, state, n):
    """All (cells, wagons that came in, wagons that went out) one move behind a state."""
    cells, come, gone = state
    for x in yard.entries:
        if cells[x] == 0 and come < n:
            yield cells[:x] + (come + 1,) + cells[x + 1:], come + 1, gone
    for x, y in yard.roads:
        if cells[x] != 0 and cells[y] == 0:
            moved = list(cells)
            moved[x], moved[y] = 0, cells[x]
            yield tuple(moved), come, gone
    for x in yard.exits:
        if cells[x] != 0:
            yield cells[:x] + (0,) + cells[x + 1:], come, gone + (cells[x],)


def reached_from(yard, states, n):
    found = set(states)
    waiting = list(states)
    while waiting:
        for state in moves_from(yard, waiting.pop(), n):
            if state not in found:
                found.add(state)
                waiting.append(state)
    return found


def orders_by_trying(yard, n):
    """The orders of n wagons that a yard makes, by trying all moves."""
    start = ((0,) * yard.cells, 0, ())
    return {gone for cells, come, gone in reached_from(yard, [start], n) if len(gone) == n}
