"""Machines made of machines."""

from enoughpaid.machines import Machine, cheapest
from enoughpaid.prices import price

SIGNS = "abcdefghijklmnopqrstuvwxyz"


def either(one, other):
    """Return the machine that reads what one of two machines reads, for the lesser price."""
    one, other = renamed(one, "a"), renamed(other, "b")
    return Machine(one.arrows + other.arrows, one.starts + other.starts, one.ends + other.ends)


def behind(one, other):
    """Return the machine that reads a row of one and behind it a row of the other, for the least sum."""
    one, other = renamed(one, "a"), renamed(other, "b")
    arrows, starts, ends = joined(one, other)
    back, last, first = joined(turned(other), turned(one))
    # Both ways give the same prices, but only one of them may keep to the number of arrows of a machine.
    if len(back) < len(arrows):
        return Machine(backward(back), first, last)
    return Machine(arrows, starts, ends)


def within(one, other):
    """Return the machine that reads what both machines read, for the price of the first."""
    unpaid = [(state, letter, after, 0) for state, letter, after, cost in other.arrows]
    return summed(one, Machine(unpaid, other.starts, other.ends))


def summed(one, other):
    """Return the machine that reads what both machines read, for the sum of both prices."""
    names = pair_names(one.states, other.states)
    arrows = [
        (names[(state, place)], letter, names[(after, beyond)], cost + toll)
        for state, letter, after, cost in one.arrows
        for place, sign, beyond, toll in other.arrows
        if sign == letter
    ]
    starts = [names[(state, place)] for state in one.starts for place in other.starts]
    ends = [names[(state, place)] for state in one.ends for place in other.ends]
    arrows, starts, ends = useful(arrows, starts, ends)
    return Machine(arrows, starts, ends)


def turned(machine):
    """Return the machine that reads the rows of a machine in the opposite order."""
    return Machine(backward(machine.arrows), machine.ends, machine.starts)


def backward(arrows):
    """Return the arrows, each from its next state to its state."""
    return [(after, letter, state, cost) for state, letter, after, cost in arrows]


def joined(one, other):
    """Return the arrows, starts and ends of a machine that passes from the ends of one to the other's starts."""
    arrows = list(one.arrows + other.arrows)
    for state, letter, after, cost in one.arrows:
        if after in one.ends:
            arrows.extend([(state, letter, start, cost) for start in other.starts])
    starts = list(one.starts)
    if price(one, "") is not None:
        starts.extend(other.starts)
    return useful(arrows, starts, other.ends)


def trimmed(machine):
    """Return the machine with only the states that are on some run."""
    arrows, starts, ends = useful(machine.arrows, machine.starts, machine.ends)
    return Machine(arrows, starts, ends)


def useful(arrows, starts, ends):
    """Return the arrows, starts and ends of the states that are on some run, so that there are few of them."""
    ahead = reached(starts, arrows)
    back = reached(ends, backward(arrows))
    kept = {state: True for state in ahead if state in back}
    return (
        cheapest([arrow for arrow in arrows if arrow[0] in kept and arrow[2] in kept]),
        [state for state in starts if state in kept],
        [state for state in ends if state in kept],
    )


def reached(starts, arrows):
    """Return the states to which arrows lead from the starts, and the starts, as the keys of a dict."""
    nexts = {}
    for state, letter, after, cost in arrows:
        nexts.setdefault(state, []).append(after)
    found = {state: True for state in starts}
    waiting = list(found)
    while waiting:
        here = waiting.pop()
        for after in nexts.get(here, []):
            if after not in found:
                found[after] = True
                waiting.append(after)
    return found


def renamed(machine, sign):
    """Return the machine with other names for its states, which all begin with a sign."""
    names = {state: sign + name_of(number) for number, state in enumerate(machine.states)}
    return Machine(
        [(names[state], letter, names[after], cost) for state, letter, after, cost in machine.arrows],
        [names[state] for state in machine.starts],
        [names[state] for state in machine.ends],
    )


def pair_names(states, others):
    """Return a dict that has a name for each pair of a state and one of the other states."""
    names = {}
    for state in states:
        for other in others:
            names[(state, other)] = name_of(len(names))
    return names


def name_of(number):
    """Return a name that no other number has."""
    name = SIGNS[number % len(SIGNS)]
    while number >= len(SIGNS):
        number = number // len(SIGNS)
        name = SIGNS[number % len(SIGNS)] + name
    return name
