"""Closures of machines, and whether machines are bounded, with what shows it."""

from enoughpaid.building import trimmed
from enoughpaid.sides import all_unless_any, all_with_texts, are_all_unless_any, has_any, least_with
from enoughpaid.tallies import MANY


def closure(machine):
    """Return the tallies of all expressions with their least expressions, in the order of these."""
    return [(tallies[0], text) for tallies, text in all_with_texts([machine])]


def bounded(machine):
    """Tell whether there is a number that the price of no row that is read exceeds."""
    # States that are on no run do not change prices, but they make more tallies.
    machine = trimmed(machine)
    return not has_any([machine], machine.letters, is_growing)


def growing(machine):
    """Return the least expression that is many along the machine, None if the machine is bounded."""
    return least_with([machine], machine.letters, is_growing)


def paper(machine):
    """Return a list of tallies that shows that the machine is bounded, None if it is not."""
    found = all_unless_any([machine], is_growing)
    return None if found is None else [tallies[0] for tallies in found]


def is_paper(machine, tallies):
    """Tell whether a list of tallies shows that the machine is bounded."""
    return are_all_unless_any([machine], [(tally,) for tally in tallies], is_growing)


def is_growing(ranks):
    """Tell whether an expression with these ranks along a machine shows that it is not bounded."""
    return ranks[0] == MANY
