"""Standings of a yard, and where the moves of its wagons lead from them."""

from cellyards.checks import is_between


def is_standing(thing, cells):
    """Whether a value, which may be anything, is a standing of a yard of so many cells."""
    if not isinstance(thing, tuple) or len(thing) != cells:
        return False
    if not all([is_between(rank, 0, cells) for rank in thing]):
        return False
    ranks = sorted([rank for rank in thing if rank != 0])
    return ranks == list(range(1, len(ranks) + 1))


def standing_of(wagons):
    """The standing of wagons that are told for each cell, 0 where there is none."""
    inside = sorted([wagon for wagon in wagons if wagon != 0])
    return tuple([0 if wagon == 0 else inside.index(wagon) + 1 for wagon in wagons])


class Standings:
    """Where moves lead from the standings of one yard. What was worked out is kept."""

    def __init__(self, yard):
        self._plan = yard
        self._traps = yard.dead()
        self._kept_steps = {}
        self._kept_outs = {}

    def empty(self):
        """The empty standing."""
        return (0,) * self._plan.cells

    def is_live(self, standing):
        """Whether no wagon stands in a dead cell."""
        return not any([standing[x] != 0 for x in self._traps])

    def steps(self, standing):
        """A list of (move, standing behind it) for the in and road moves."""
        if standing not in self._kept_steps:
            self._kept_steps[standing] = self._ins(standing) + self._rides(standing)
        return self._kept_steps[standing]

    def _ins(self, standing):
        # The next wagon is greater than all that are inside.
        rank = max(standing) + 1
        free = [x for x in self._plan.entries if standing[x] == 0]
        return [(("in", x), _with(standing, x, rank)) for x in free]

    def _rides(self, standing):
        rides = []
        for x, y in self._plan.roads:
            if standing[x] != 0 and standing[y] == 0:
                there = _with(_with(standing, x, 0), y, standing[x])
                rides.append((("road", x, y), there))
        return rides

    def outs(self, standing):
        """A dict with (move, what is left) for each rank that a standing lets out."""
        if standing not in self._kept_outs:
            taken = [x for x in self._plan.exits if standing[x] != 0]
            self._kept_outs[standing] = {standing[x]: (("out", x), _left(standing, x)) for x in taken}
        return self._kept_outs[standing]

    def closed(self, standings):
        """The rising tuple of standings and all to which in and road moves lead from them."""
        return self._spread(standings, True)

    def closed_live(self, standings):
        """As closed, of standings without wagons in dead cells, and none with such is reached."""
        return self._spread(standings, False)

    def _spread(self, standings, with_dead):
        found = {standing: True for standing in standings}
        waiting = list(found)
        while waiting:
            standing = waiting.pop()
            for _, later in self.steps(standing):
                if later not in found and (with_dead or self.is_live(later)):
                    found[later] = True
                    waiting.append(later)
        return tuple(sorted(found))

    def left_behind(self, standings, rank):
        """A list of what is left of those standings that let a rank out."""
        left = []
        for standing in standings:
            outs = self.outs(standing)
            if rank in outs:
                left.append(outs[rank][1])
        return left

    def first_set(self):
        """The set for no ranks."""
        return self.closed_live([self.empty()])

    def behind(self, standings, rank):
        """The rising tuple of what is behind standings, without wagons in dead cells, and a rank."""
        return self.closed_live(self.left_behind(standings, rank))


def _with(standing, x, rank):
    return standing[:x] + (rank,) + standing[x + 1:]


def _left(standing, x):
    gone = standing[x]
    rest = _with(standing, x, 0)
    return tuple([rank - 1 if rank > gone else rank for rank in rest])
