"""Pieces: how many of them are enough for all rows that can be cut into pieces."""

from enoughpaid.building import name_of, useful
from enoughpaid.greatest import greatest
from enoughpaid.machines import Machine


def pieces(machine):
    """Return the machine of pieces, whose price is the least number of pieces into which a row can be cut."""
    cut = new_name(machine.states)
    arrows = []
    for state, letter, after, cost in machine.arrows:
        # A piece is paid for with its first letter, and with its last one it leads back to where rows are cut.
        sources = [(state, 0), (cut, 1)] if state in machine.starts else [(state, 0)]
        targets = [after, cut] if after in machine.ends else [after]
        arrows.extend([(source, letter, target, toll) for source, toll in sources for target in targets])
    arrows, starts, ends = useful(arrows, [cut], [cut])
    return Machine(arrows, starts, ends)


def enough(machine):
    """Return the least number of pieces that is enough for all rows of pieces, None if no number is."""
    found = greatest(pieces(machine))
    return None if found is None else found[0]


def new_name(states):
    """Return a name that is not that of one of the states."""
    names = [name_of(number) for number in range(len(states) + 1)]
    return [name for name in names if name not in states][0]
