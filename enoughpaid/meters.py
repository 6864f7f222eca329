"""Meters, which read rows letter by letter."""

from enoughpaid.checks import LONGEST_ROW, check_row, is_integer
from enoughpaid.errors import BadNumber, BadRow
from enoughpaid.prices import advance, best, least, moves_by_letter


class Meter:
    """A meter for a machine, which knows the prices of the row that it has read."""

    def __init__(self, machine):
        self.held_machine = machine
        self.held_moves = moves_by_letter(machine)
        self.held_row = ""
        # The prices at all states that have one, ahead of the first letter and behind each letter.
        self.held_prices = [{state: 0 for state in machine.starts}]

    @property
    def machine(self):
        """The machine for which the meter reads."""
        return self.held_machine

    @property
    def so_far(self):
        """The row that has been read."""
        return self.held_row

    @property
    def price(self):
        """The price of the row that has been read, None if the machine does not read it."""
        return least(self.held_prices[-1], self.held_machine.ends)

    @property
    def prices(self):
        """The prices at all states, None where there is none."""
        return {state: self.held_prices[-1].get(state) for state in self.held_machine.states}

    def best(self):
        """Return the best run on the row that has been read, None if the machine does not read it."""
        return best(self.held_machine, self.held_row)

    def read(self, row):
        """Read the letters of a row."""
        check_row(row)
        if len(self.held_row) + len(row) > LONGEST_ROW:
            raise BadRow(row)
        for letter in row:
            self.held_prices.append(advance(self.held_prices[-1], self.held_moves.get(letter, [])))
        self.held_row = self.held_row + row

    def undo(self, count=1):
        """Take back the last letters."""
        if not is_integer(count) or count < 0 or count > len(self.held_row):
            raise BadNumber(count)
        left = len(self.held_row) - count
        self.held_row = self.held_row[:left]
        del self.held_prices[left + 1:]
