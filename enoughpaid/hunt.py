"""Hunts for dear rows, by following the prices at all states."""

from enoughpaid.building import trimmed
from enoughpaid.checks import HIGHEST_PRICE
from enoughpaid.prices import moves_by_letter

MOST_RIVALS = 30


def dearest(machine, number, least):
    """Return the price and the row of the first row that costs more than a number.

    Shorter rows are first, and those of one length are in alphabetical order. If no row costs more than the number,
    return the greatest price above the least one, with the first row that has it, and None for both if there is none.
    A price above the number is told as the number and one.
    """
    hunt = Hunt(trimmed(machine), number, least)
    hunt.run()
    return (None, None) if hunt.dearest_row is None else (hunt.greatest_price, hunt.dearest_row)


class Hunt:
    """Follows the prices at all states, for shorter rows first, where prices above a number count alike.

    The prices at all states are a tuple of levels, one for each state: the price, or the number and one for all that
    is above it, or the level that stands for no price.
    """

    def __init__(self, machine, number, least):
        self.number = number
        self.greatest_price = least
        self.dearest_row = None
        # Between the levels there is room for the price of an arrow, so that a level with it added leads to one again.
        self.nothing = number + HIGHEST_PRICE + 2
        self.levels = [*range(number + 1)] + [number + 1] * (HIGHEST_PRICE + 1) + [self.nothing] * (HIGHEST_PRICE + 1)
        self.letter_sources = [(letter, sources_of(machine, letter)) for letter in machine.letters]
        self.first_levels = tuple(
            [self.levels[0] if state in machine.starts else self.nothing for state in machine.states]
        )
        self.end_places = [machine.states.index(state) for state in machine.ends]
        self.resting_places = [machine.states.index(state) for state in resting_states(machine)]
        # One bit more than a level needs, which is taken away if a greater level is subtracted.
        self.width = self.nothing.bit_length() + 1
        self.guards = sum([1 << (at * self.width + self.width - 1) for at in range(len(machine.states))])
        self.seen = {}
        self.rivals = {}
        # The levels to follow, each with the place of those that the last letter led there from, and this letter.
        self.trail = []

    def run(self):
        """Hunt until a row costs more than the number, or until there is nothing more to follow."""
        self.offer(self.first_levels, None, "")
        at = 0
        while at < len(self.trail):
            for letter, sources in self.letter_sources:
                if self.greatest_price > self.number:
                    return
                self.offer(self.levels_behind(self.trail[at][0], sources), at, letter)
            at += 1

    def levels_behind(self, levels, sources):
        """Return the levels behind a letter, which leads from these sources to each state."""
        return tuple([
            self.levels[min([levels[place] + cost for place, cost in ways], default=self.nothing)] for ways in sources
        ])

    def offer(self, levels, front, letter):
        """Take note of the price of a row, which has a letter behind one of the trail, and of its levels."""
        if levels in self.seen:
            return
        self.seen[levels] = True
        price = min([levels[place] for place in self.end_places], default=self.nothing)
        if self.greatest_price < price < self.nothing:
            self.greatest_price = price
            self.dearest_row = self.row_to(front, letter)
        if self.may_lead_higher(levels) and self.outdo(levels):
            self.trail.append((levels, front, letter))

    def row_to(self, front, letter):
        """Return the row that has a letter behind one of the trail."""
        signs = [letter]
        while front is not None:
            levels, front, letter = self.trail[front]
            signs.append(letter)
        return "".join(signs[::-1])

    def may_lead_higher(self, levels):
        """Tell whether a row that begins so may cost more than the dearest one."""
        return all([levels[place] > self.greatest_price for place in self.resting_places])

    def outdo(self, levels):
        """Tell whether no rival has prices at the same states, all of them as great; keep the levels as a rival then.

        An earlier row with such prices leads to something as dear, and to that before.
        """
        states = tuple([level == self.nothing for level in levels])
        bits = 0
        for level in levels:
            bits = (bits << self.width) + level
        rivals = self.rivals.get(states, [])
        for rival in rivals:
            if self.is_nowhere_less(rival, bits):
                return False
        # Not all are kept: to ask very many of them takes longer than to follow more levels.
        kept = [rival for rival in rivals if not self.is_nowhere_less(bits, rival)]
        self.rivals[states] = [*kept[-MOST_RIVALS:], bits]
        return True

    def is_nowhere_less(self, bits, other):
        """Tell whether no level in some bits is less than that in the same place of others."""
        return ((bits | self.guards) - other) & self.guards == self.guards


def sources_of(machine, letter):
    """Return for each state the places of the states from which the letter leads there, with the prices."""
    places = {state: at for at, state in enumerate(machine.states)}
    sources = [[] for state in machine.states]
    for state, after, cost in moves_by_letter(machine)[letter]:
        sources[places[after]].append((places[state], cost))
    return sources


def resting_states(machine):
    """Return the ends from which all letters lead to such ends for nothing."""
    resting = []
    left = list(machine.ends)
    while len(left) != len(resting):
        resting = left
        left = [state for state in resting if len(free_letters(machine, state, resting)) == len(machine.letters)]
    return resting


def free_letters(machine, state, ends):
    """Return the letters that lead from a state to some ends for nothing."""
    return sorted(set([
        letter
        for source, letter, after, cost in machine.arrows
        if source == state and after in ends and cost == 0
    ]))
