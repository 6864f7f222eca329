"""Machines side by side, so that the tallies that an expression has for them are searched together."""

from enoughpaid.packed import Packing
from enoughpaid.search import BY_LETTERS, BY_STARS, Search
from enoughpaid.tallies import tally_of, tally_with


class Sides:
    """Machines side by side: their tallies for an expression are packed together, one below the other."""

    def __init__(self, machines):
        self.held_sides = []
        size = 0
        for machine in machines:
            self.held_sides.append((machine, size))
            size += len(machine.states)
        self.packing = Packing(size)
        self.held_doors = [self.doors_of(machine, begin) for machine, begin in self.held_sides]

    def doors_of(self, machine, begin):
        """Return the places of the starts of a machine, and those of its ends as bits."""
        starts = [begin + machine.states.index(state) for state in machine.starts]
        return starts, sum([1 << (begin + machine.states.index(state)) for state in machine.ends])

    def ranks_along(self, packed):
        """Return for each machine the least rank from one of its starts to one of its ends."""
        return [self.packing.least_way(packed, starts, ends) for starts, ends in self.held_doors]

    def packed(self, tallies):
        """Return tallies, one for each machine, as one packed tally."""
        return tuple([
            self.packing.packed_row(ranks, begin)
            for (machine, begin), tally in zip(self.held_sides, tallies)
            for ranks in tally.held_ranks
        ])

    def unpacked(self, packed):
        """Return a packed tally as a tuple of tallies, one for each machine."""
        return tuple([self.tally_for(machine, begin, packed) for machine, begin in self.held_sides])

    def tally_for(self, machine, begin, packed):
        """Return the tally of a machine, whose rows begin at a place of the packed tally."""
        end = begin + len(machine.states)
        return tally_with(machine.states, tuple([self.packing.ranks_of(row)[begin:end] for row in packed[begin:end]]))

    def search(self, letters, weights):
        """Return a search for the tallies of the expressions of some letters."""
        rows = [
            (letter, self.packed([tally_of(machine, letter) for machine, begin in self.held_sides]))
            for letter in letters
        ]
        return Search(self.packing, rows, weights)


def all_letters(machines):
    """Return the letters of all machines, in ascending order."""
    return sorted(set([letter for machine in machines for letter in machine.letters]))


def least_with(machines, letters, is_wanted):
    """Return the least expression of the letters whose ranks along the machines are wanted, None if there is none."""
    sides = Sides(machines)
    search = sides.search(letters, BY_STARS)
    number = search.first(lambda tally: is_wanted(sides.ranks_along(tally)))
    return None if number is None else search.texts[number]


def has_any(machines, letters, is_wanted):
    """Tell whether the ranks of some expression of the letters along the machines are wanted."""
    sides = Sides(machines)
    # The search is over sooner if it does not leave the expressions with many stars for the end.
    return sides.search(letters, BY_LETTERS).first(lambda tally: is_wanted(sides.ranks_along(tally))) is not None


def all_with_texts(machines):
    """Return the tallies of all expressions, one for each machine, with the least expressions, in their order."""
    sides = Sides(machines)
    search = sides.search(all_letters(machines), BY_STARS)
    search.find_all()
    return [(sides.unpacked(tally), search.texts[number]) for tally, number in search.found.items()]


def all_unless_any(machines, is_wanted):
    """Return the tallies of all expressions, one for each machine, None if the ranks of any are wanted."""
    sides = Sides(machines)
    search = sides.search(all_letters(machines), BY_LETTERS)
    if search.first(lambda tally: is_wanted(sides.ranks_along(tally))) is not None:
        return None
    return [sides.unpacked(tally) for tally in search.found]


def are_all_unless_any(machines, told, is_wanted):
    """Tell whether a list has the tallies of all letters and what they lead to, and none whose ranks are wanted.

    That is to say, with any that are settled the repeated ones, and with all the ones that have a letter or any
    repeated ones put behind them. There may be more tallies than those of expressions.
    """
    if not all([have_states_of(machines, tallies) for tallies in told]):
        return False
    sides = Sides(machines)
    held = {sides.packed(tallies): True for tallies in told}
    if any([is_wanted(sides.ranks_along(tally)) for tally in held]):
        return False
    search = sides.search(all_letters(machines), BY_LETTERS)
    if search.first(lambda tally: tally not in held) is not None:
        return False
    return others_lead_back(sides.packing, search, held)


def have_states_of(machines, tallies):
    """Tell whether each of the tallies has the states of its machine."""
    return all([tally.states == machine.states for machine, tally in zip(machines, tallies)])


def others_lead_back(packing, search, held):
    """Tell whether what the tallies that a search has not found lead to is among those that are held.

    The search has found all tallies of expressions, and all of these are held.
    """
    others = [tally for tally in held if tally not in search.found]
    # What is put behind is itself put together of the tallies of the parts that the search has found.
    for part in search.parts():
        if not all([search.behind(tally, part) in held for tally in others]):
            return False
    repeats = {packing.repeated(tally): True for tally in others if packing.is_settled(tally)}
    for repeat in repeats:
        if repeat not in held:
            return False
        if repeat not in search.found and not all([packing.behind(tally, repeat) in held for tally in held]):
            return False
    return True
