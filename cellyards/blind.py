"""Whether a yard can be led by someone who is told the next rank only when a wagon is out.

A place of this game is (number of a set, standing of it). It is lost if a rank may be told
there that cannot be let out, or only so that each place behind it is lost, too.
"""

from cellyards.checks import is_integer
from cellyards.sets import Sets
from cellyards.standings import Standings
from cellyards.yards import check_yard


class Game:
    """The places of one yard, and how ranks lead from one to another. What was worked out is kept."""

    def __init__(self, yard):
        self._ground = Standings(yard)
        sets = Sets(yard)
        table = sets.table()
        self._rows = [sets.row(number) for number in range(len(table))]
        self._numbers = {row: number for number, row in enumerate(self._rows)}
        self._told = [{rank: later for rank, later in enumerate(row) if later is not None} for row in table]
        self._kept_left = {}

    def beginning(self):
        """The place where the game begins."""
        return 0, self._ground.empty()

    def rows(self):
        """A list of all sets, by their numbers."""
        return list(self._rows)

    def number_of_row(self, row):
        """The number of a set, or None for another tuple of tuples of integers."""
        return self._numbers.get(row)

    def may_be_told(self, number, rank):
        """Whether a member of the set with a number lets a rank out."""
        return rank in self._told[number]

    def told(self, place):
        """A dict with what may be told at a place: for each rank a list of the places behind it."""
        number, standing = place
        ranks = self._told[number]
        return {rank: [(ranks[rank], left) for left in self._left(standing, rank)] for rank in ranks}

    def _left(self, standing, rank):
        """What may be left of a standing when moves let a rank out."""
        if (standing, rank) not in self._kept_left:
            reached = self._ground.closed_live([standing])
            self._kept_left[standing, rank] = self._ground.left_behind(reached, rank)
        return self._kept_left[standing, rank]


def blind(yard):
    """Whether a yard can be led blind."""
    check_yard(yard)
    game = Game(yard)
    return game.beginning() not in _lost(game)


def blind_paper(yard):
    """A blind paper of a yard, ("good", pairs) or ("bad", rows)."""
    check_yard(yard)
    game = Game(yard)
    lost = _lost(game)
    if game.beginning() in lost:
        return "bad", _bad_rows(game, lost)
    return "good", _good_pairs(game, lost)


def _lost(game):
    """For each lost place (a rank that is told there, how many ranks may still be let out behind it)."""
    lost = {}
    others = [(number, standing) for number, row in enumerate(game.rows()) for standing in row]
    height, known = 0, -1
    while known < len(lost):
        known = len(lost)
        ranks = [_losing_rank(game, lost, place) for place in others]
        for place, rank in zip(others, ranks):
            if rank is not None:
                lost[place] = (rank, height)
        others = [place for place in others if place not in lost]
        height += 1
    return lost


def _losing_rank(game, lost, place):
    """A rank behind which each place is among the lost ones, or None."""
    told = game.told(place)
    for rank in told:
        if all([later in lost for later in told[rank]]):
            return rank
    return None


def _good_pairs(game, lost):
    pairs = []
    for number, row in enumerate(game.rows()):
        lot = tuple([standing for standing in row if (number, standing) not in lost])
        if len(lot) > 0:
            pairs.append((row, lot))
    return tuple(pairs)


def _bad_rows(game, lost):
    """The rows of the lost places to which the ranks that are told at them lead."""
    sets = game.rows()
    found = {game.beginning(): True}
    waiting = [game.beginning()]
    rows = []
    while waiting:
        place = waiting.pop()
        rank, height = lost[place]
        rows.append((sets[place[0]], place[1], rank, height))
        for later in game.told(place)[rank]:
            if later not in found:
                found[later] = True
                waiting.append(later)
    return tuple(rows)


def is_blind_paper(yard, thing):
    """Whether a value, which may be anything, is a blind paper of a yard."""
    check_yard(yard)
    if not isinstance(thing, tuple) or len(thing) != 2 or not isinstance(thing[1], tuple):
        return False
    kind, rows = thing
    if kind == "good":
        return _is_good(Game(yard), rows)
    return kind == "bad" and _is_bad(Game(yard), rows)


def _is_good(game, pairs):
    """Whether a tuple is the pairs of a good paper."""
    if not all([_is_pair(game, pair) for pair in pairs]):
        return False
    lots = {game.number_of_row(row): lot for row, lot in pairs}
    places = {(number, standing): True for number in lots for standing in lots[number]}
    if len(lots) < len(pairs) or game.beginning() not in places:
        return False
    return all([_is_held(game, places, place) for place in places])


def _is_pair(game, thing):
    """Whether a value is a (set, lot) as they stand in good papers."""
    if not isinstance(thing, tuple) or len(thing) != 2:
        return False
    row, lot = thing
    if not _is_set(game, row) or not _is_tuples(lot):
        return False
    return all([standing in row for standing in lot]) and lot == tuple(sorted(set(lot)))


def _is_held(game, places, place):
    """Whether each rank that may be told at a place can be let out, with one of the places behind it."""
    told = game.told(place)
    return all([any([later in places for later in told[rank]]) for rank in told])


def _is_bad(game, rows):
    """Whether a tuple is the rows of a bad paper."""
    if not all([_is_row(game, row) for row in rows]):
        return False
    known = [((game.number_of_row(row), standing), rank, height) for row, standing, rank, height in rows]
    least = {}
    for place, _, height in known:
        least[place] = min(height, least.get(place, height))
    if game.beginning() not in least:
        return False
    return all([_is_beaten(game, least, place, rank, height) for place, rank, height in known])


def _is_row(game, thing):
    """Whether a value is a (set, standing, rank, height) as they stand in bad papers."""
    if not isinstance(thing, tuple) or len(thing) != 4:
        return False
    row, standing, rank, height = thing
    if not _is_set(game, row) or not _is_integers(standing) or standing not in row:
        return False
    if not is_integer(rank) or not is_integer(height) or height < 0:
        return False
    return game.may_be_told(game.number_of_row(row), rank)


def _is_beaten(game, least, place, rank, height):
    """Whether each place behind a place and a rank stands among the rows with a lesser height."""
    return all([later in least and least[later] < height for later in game.told(place)[rank]])


def _is_set(game, thing):
    """Whether a value is a set of the yard that is not empty."""
    return _is_tuples(thing) and game.number_of_row(thing) is not None


def _is_tuples(thing):
    return isinstance(thing, tuple) and all([_is_integers(item) for item in thing])


def _is_integers(thing):
    return isinstance(thing, tuple) and all([is_integer(item) for item in thing])
