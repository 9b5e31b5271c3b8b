"""Yards: cells, one-way roads between them, entries and exits."""

from cellyards.checks import is_between, is_integer, is_list
from cellyards.errors import InvalidCells, InvalidNumber, InvalidRoads, InvalidYard, NoCell, NoRoad


class Yard:
    """A yard of cells 0, 1, .. with its roads, entries and exits. It never changes."""

    def __init__(self, cells, *, roads=(), entries=(), exits=()):
        if not is_integer(cells) or cells < 1:
            raise InvalidNumber(cells)
        _check_roads(roads, cells)
        _check_cells(entries, cells)
        _check_cells(exits, cells)
        self._cells = cells
        self._roads = tuple(sorted(set(roads)))
        self._entries = tuple(sorted(set(entries)))
        self._exits = tuple(sorted(set(exits)))

    @property
    def cells(self):
        """The number of cells."""
        return self._cells

    @property
    def roads(self):
        """The rising tuple of the roads (x, y)."""
        return self._roads

    @property
    def entries(self):
        """The rising tuple of the entries."""
        return self._entries

    @property
    def exits(self):
        """The rising tuple of the exits."""
        return self._exits

    def __eq__(self, other):
        return (
            isinstance(other, Yard)
            and self._cells == other._cells
            and self._roads == other._roads
            and self._entries == other._entries
            and self._exits == other._exits
        )

    def __add__(self, other):
        if not isinstance(other, Yard):
            return NotImplemented
        step = self._cells
        links = [(x, step + y) for x in self._exits for y in other._entries]
        moved = [(step + x, step + y) for x, y in other._roads]
        return Yard(
            step + other._cells,
            roads=[*self._roads, *links, *moved],
            entries=self._entries,
            exits=[step + x for x in other._exits],
        )

    def turned(self):
        """The yard with each road the other way round, entries and exits exchanged."""
        roads = [(y, x) for x, y in self._roads]
        return Yard(self._cells, roads=roads, entries=self._exits, exits=self._entries)

    def dead(self):
        """The rising tuple of the cells from which no wagon goes out."""
        alive = _leading_to(self._exits, self._roads)
        return tuple([cell for cell in range(self._cells) if cell not in alive])

    def without_road(self, x, y):
        """The yard without the road (x, y)."""
        if not is_integer(x) or not is_integer(y) or (x, y) not in self._roads:
            raise NoRoad(x, y)
        roads = [road for road in self._roads if road != (x, y)]
        return Yard(self._cells, roads=roads, entries=self._entries, exits=self._exits)

    def without_entry(self, x):
        """The yard without the entry x."""
        entries = _without_cell(self._entries, x)
        return Yard(self._cells, roads=self._roads, entries=entries, exits=self._exits)

    def without_exit(self, x):
        """The yard without the exit x."""
        exits = _without_cell(self._exits, x)
        return Yard(self._cells, roads=self._roads, entries=self._entries, exits=exits)


def check_yard(yard):
    """Raises InvalidYard if a value is not a yard."""
    if not isinstance(yard, Yard):
        raise InvalidYard(yard)


def _is_cell(thing, cells):
    return is_between(thing, 0, cells - 1)


def _is_road(thing, cells):
    if not isinstance(thing, tuple) or len(thing) != 2:
        return False
    x, y = thing
    return _is_cell(x, cells) and _is_cell(y, cells) and x != y


def _check_roads(roads, cells):
    if not is_list(roads):
        raise InvalidRoads(None)
    for place, road in enumerate(roads):
        if not _is_road(road, cells):
            raise InvalidRoads(place)


def _check_cells(row, cells):
    if not is_list(row):
        raise InvalidCells(None)
    for place, cell in enumerate(row):
        if not _is_cell(cell, cells):
            raise InvalidCells(place)


def _without_cell(row, x):
    if not is_integer(x) or x not in row:
        raise NoCell(x)
    return [cell for cell in row if cell != x]


def _leading_to(ends, roads):
    """A dict with these cells, and those from which roads lead to them, as its keys."""
    found = {cell: True for cell in ends}
    waiting = list(ends)
    while waiting:
        end = waiting.pop()
        for x, y in roads:
            if y == end and x not in found:
                found[x] = True
                waiting.append(x)
    return found
