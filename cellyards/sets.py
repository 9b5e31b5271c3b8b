"""The sets of a yard, by numbers."""

from cellyards.standings import Standings


class Sets:
    """The sets of one yard that are not empty, numbered as they are found, the first set 0."""

    def __init__(self, yard):
        self._ground = Standings(yard)
        self._most = yard.cells
        self._rows = [self._ground.first_set()]
        self._numbers = {self._rows[0]: 0}
        self._known = {}
        self._table = []

    def row(self, number):
        """The set with a number, a rising tuple."""
        return self._rows[number]

    def behind(self, number, rank):
        """The number of the set behind the one with a number and a rank, or None if it is empty."""
        if (number, rank) not in self._known:
            self._known[number, rank] = self._number_of(self._ground.behind(self._rows[number], rank))
        return self._known[number, rank]

    def _number_of(self, row):
        if len(row) == 0:
            return None
        if row not in self._numbers:
            self._numbers[row] = len(self._rows)
            self._rows.append(row)
        return self._numbers[row]

    def after(self, ranks):
        """The number of the set for a row of ranks, or None if it is empty."""
        number = 0
        for rank in ranks:
            number = self.behind(number, rank)
            if number is None:
                return None
        return number

    def may_end(self, number):
        """Whether all wagons that came in may be out: then the ranks are those of an order."""
        return self._ground.empty() in self._rows[number]

    def table(self):
        """For each number the list of what is behind the set, by ranks from 0 to one that is too great."""
        while len(self._table) < len(self._rows):
            number = len(self._table)
            self._table.append([self.behind(number, rank) for rank in range(self._most + 2)])
        return self._table
