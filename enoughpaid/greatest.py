"""Greatest prices, and rows that cost more than a number."""

from enoughpaid.checks import is_integer
from enoughpaid.closures import bounded
from enoughpaid.errors import BadNumber
from enoughpaid.hunt import dearest

LEAST_NUMBER = -1
GREATEST_NUMBER = 1000


def above(machine, number):
    """Return the shortest row that costs more than a number, the first of these, None if there is none."""
    if not is_integer(number) or number < LEAST_NUMBER or number > GREATEST_NUMBER:
        raise BadNumber(number)
    cost, row = dearest(machine, number, number)
    return row


def greatest(machine):
    """Return the greatest price with a row that has it, two times None without a row, None if there is no bound."""
    if not bounded(machine):
        return None
    least, number = LEAST_NUMBER, 0
    cost, row = dearest(machine, number, least)
    while cost is not None and cost > number:
        # Small steps: above the greatest price, each number more makes the work much longer.
        least, number = number, number + number // 4 + 1
        cost, row = dearest(machine, number, least)
    return (cost, row)
