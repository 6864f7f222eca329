"""Cures, which make a machine bounded, and supports, without which it is not."""

from enoughpaid.building import reached, trimmed
from enoughpaid.checks import is_letter, is_list, is_name
from enoughpaid.closures import bounded
from enoughpaid.errors import Unbounded, UnknownArrow
from enoughpaid.machines import Machine

STEP_PARTS = 3


class Trials:
    """Tries sets of paid arrows of a machine, and remembers which were cures, for a trial may take long."""

    def __init__(self, machine, paid):
        self.tried_machine = machine
        # All paid arrows are always a cure.
        self.cured = [paid]
        self.failed = []

    def has_failed(self, arrows):
        """Tell whether it is known without a trial that some arrows are no cure."""
        return any([is_part(arrows, others) for others in self.failed])

    def is_cure(self, arrows):
        """Tell whether some arrows are a cure."""
        if any([is_part(cure, arrows) for cure in self.cured]):
            return True
        if self.has_failed(arrows):
            return False
        if bounded(with_price(self.tried_machine, arrows, 0)):
            self.cured.append(arrows)
            return True
        self.failed.append(arrows)
        return False

    def enlarge(self, arrows, paid):
        """Try sets with some arrows that are no cure, up to one that becomes a cure with any other paid arrow.

        The parts of this set, which are many, need no trial then.
        """
        most = arrows
        for arrow in paid:
            if arrow not in most and not self.is_cure([*most, arrow]):
                most = [*most, arrow]


def freed(machine, arrows):
    """Return the machine in which some arrows are made free."""
    steps = [(state, letter, after) for state, letter, after, cost in machine.arrows]
    for arrow in arrows:
        if not is_step(arrow) or tuple(arrow) not in steps:
            raise UnknownArrow(arrow)
    return with_price(machine, [tuple(arrow) for arrow in arrows], 0)


def cures(machine):
    """Return all least cures, those with fewer arrows first, those with as many in ascending order."""
    paid = [arrow for arrow, cost in on_rounds(machine) if cost > 0]
    trials = Trials(machine, paid)
    found = []
    sets = [[]]
    while sets:
        longer = []
        for chosen in sets:
            if any([is_part(cure, chosen) for cure in found]):
                continue
            if not trials.has_failed(chosen):
                if trials.is_cure(chosen):
                    found.append(chosen)
                    continue
                trials.enlarge(chosen, paid)
            longer.extend([[*chosen, arrow] for arrow in paid if not chosen or arrow > chosen[-1]])
        sets = longer
    return sorted([tuple(cure) for cure in found], key=lambda cure: (len(cure), cure))


def supports(machine):
    """Return all free arrows without which the machine would not be bounded, in ascending order."""
    if not bounded(machine):
        raise Unbounded()
    free = [arrow for arrow, cost in on_rounds(machine) if cost == 0]
    return [arrow for arrow in free if not bounded(with_price(machine, [arrow], 1))]


def on_rounds(machine):
    """Return the arrows, without and with their prices, that a run can take again and again.

    What the others cost does not matter to bounds, for a run takes each of them once at most.
    """
    arrows = trimmed(machine).arrows
    return [
        ((state, letter, after), cost)
        for state, letter, after, cost in arrows
        if state in reached([after], arrows)
    ]


def is_step(value):
    """Tell whether a value has the form of an arrow without its price."""
    if not is_list(value) or len(value) != STEP_PARTS:
        return False
    state, letter, after = value
    return is_name(state) and is_letter(letter) and is_name(after)


def with_price(machine, steps, price):
    """Return the machine in which the arrows of some steps have this price."""
    arrows = [
        (state, letter, after, price if (state, letter, after) in steps else cost)
        for state, letter, after, cost in machine.arrows
    ]
    return Machine(arrows, machine.starts, machine.ends)


def is_part(arrows, others):
    """Tell whether all of some arrows are among others."""
    return all([arrow in others for arrow in arrows])
