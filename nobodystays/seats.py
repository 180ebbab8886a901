"""Persons who are led from hall to hall."""

from nobodystays.checks import check_house, check_number
from nobodystays.errors import BadStep
from nobodystays.groups import still, then, undone
from nobodystays.stays import halls_kept


class Seats:
    """Persons in the halls of a house, each in the hall of their number at first."""

    def __init__(self, house):
        check_house(house)
        halls, turns = house
        self._turns = turns
        self._row = []
        self._where = still(halls)

    def do(self, letter):
        """Do the turn of a number: whoever is in a hall goes to where it leads."""
        check_number(letter, 0, len(self._turns) - 1)
        self._where = then(self._where, self._turns[letter])
        self._row.append(letter)

    def undo(self):
        """Take the last turn back."""
        if len(self._row) == 0:
            raise BadStep()
        letter = self._row.pop()
        self._where = then(self._where, undone(self._turns[letter]))

    def stayers(self):
        """The ascending tuple of the persons who are in the hall of their number."""
        return halls_kept(self._where)

    @property
    def row(self):
        """The tuple of the numbers of the turns done."""
        return tuple(self._row)

    @property
    def where(self):
        """The tuple of the halls where the persons are."""
        return self._where
