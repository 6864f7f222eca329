"""Two machines: whether one is cheap wherever the other one is."""

from enoughpaid.building import trimmed
from enoughpaid.prices import price
from enoughpaid.sides import all_unless_any, are_all_unless_any, has_any, least_with
from enoughpaid.tallies import SOME


def under(one, other):
    """Tell whether one machine is under another one."""
    # States that are on no run do not change prices, but they make more tallies.
    one, other = trimmed(one), trimmed(other)
    return not parts_without_letters(one, other) and not has_any([one, other], other.letters, is_parting)


def apart(one, other):
    """Return the least expression that parts one machine from another, empty for the empty row, None if under it."""
    if parts_without_letters(one, other):
        return ""
    # What the other machine does not read parts nothing from it, so its letters are enough.
    return least_with([one, other], other.letters, is_parting)


def alike(one, other):
    """Tell whether two machines are alike up to bounds."""
    return under(one, other) and under(other, one)


def pair_paper(one, other):
    """Return a list of pairs of tallies that shows that one machine is under another one, None if it is not."""
    if parts_without_letters(one, other):
        return None
    return all_unless_any([one, other], is_parting)


def is_pair_paper(one, other, pairs):
    """Tell whether a list of pairs of tallies shows that one machine is under another one."""
    return not parts_without_letters(one, other) and are_all_unless_any([one, other], pairs, is_parting)


def parts_without_letters(one, other):
    """Tell whether the other machine reads the row without letters and the one does not."""
    return price(other, "") is not None and price(one, "") is None


def is_parting(ranks):
    """Tell whether an expression with these ranks along two machines parts the first from the second."""
    return ranks[1] <= SOME < ranks[0]
