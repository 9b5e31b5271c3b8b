"""Desks, at which a yard is led by moves."""

from cellyards.errors import Blocked, InvalidMove, NothingDone
from cellyards.moving import cell_in_the_way, is_move
from cellyards.standings import standing_of
from cellyards.yards import check_yard


class Desk:
    """A yard with the wagons in its cells, and the moves that led them there."""

    def __init__(self, yard):
        check_yard(yard)
        self._yard = yard
        self._inside = (0,) * yard.cells
        self._out = ()
        self._moves = ()

    @property
    def yard(self):
        """The yard."""
        return self._yard

    @property
    def out(self):
        """The tuple of the wagons as they went out."""
        return self._out

    @property
    def inside(self):
        """The tuple with the wagon, or 0, for each cell."""
        return self._inside

    @property
    def standing(self):
        """The standing."""
        return standing_of(self._inside)

    def __len__(self):
        return len(self._moves)

    def __iter__(self):
        return iter(self._moves)

    def move(self, move):
        """Makes a move, and returns the wagon that moved."""
        if not is_move(self._yard, move):
            raise InvalidMove(move)
        cell = cell_in_the_way(self._inside, move)
        if cell is not None:
            raise Blocked(cell)
        wagon = self._next_wagon() if move[0] == "in" else self._inside[move[1]]
        inside = list(self._inside)
        inside[move[1]] = 0
        if move[0] == "out":
            self._out = self._out + (wagon,)
        else:
            inside[move[-1]] = wagon
        self._inside = tuple(inside)
        self._moves = self._moves + (move,)
        return wagon

    def _next_wagon(self):
        return len(self._out) + max(self.standing) + 1

    def back(self):
        """Takes the last move back, and returns it."""
        if len(self._moves) == 0:
            raise NothingDone()
        move = self._moves[-1]
        inside = list(self._inside)
        wagon = self._out[-1] if move[0] == "out" else inside[move[-1]]
        inside[move[-1]] = 0
        if move[0] == "out":
            self._out = self._out[:-1]
        if move[0] != "in":
            inside[move[1]] = wagon
        self._inside = tuple(inside)
        self._moves = self._moves[:-1]
        return move

    def hopeless(self):
        """Whether a wagon stands in a dead cell."""
        return any([self._inside[x] != 0 for x in self._yard.dead()])
