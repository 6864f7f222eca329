"""What several files of tests use: objects that are no names or rows, and small machines with all their runs."""

import itertools
from unittest import mock

from enoughpaid.machines import Machine

NOT_NAMES = [
    "", "A", "a1", "a b", " a", "a ", "a\n", "abcdefghi", "a" * 5001, "\u00e4", "\u03b1", "\u00aa", "\uff41",
    "a_", "a-b", 0, 1, None, True, 1.5, b"a", ("a",), ["a"], {"a": 1}, {"a"}, object(), mock.ANY,
]
NOT_ROWS = [
    "A", "aB", "a b", " ", "a\n", "\n", "a1", "1", "-", "\u00e4", "a\u00df", "\uff41", "a" * 5001, None, 0, 1, True,
    False, 1.5, b"a", b"", ("a",), (), ["a", "b"], [], {"a": 1}, {}, {"a"}, object(), mock.ANY,
]


def all_runs(machine, row, starts, ends):
    """Return a pair of the price and the states for each run on the row, as the document defines it."""
    costs = {(state, letter, after): cost for state, letter, after, cost in machine.arrows}
    found = []
    for states in itertools.product(machine.states, repeat=len(row) + 1):
        steps = [(states[place], row[place], states[place + 1]) for place in range(len(row))]
        if states[0] in starts and states[-1] in ends and all(step in costs for step in steps):
            found.append((sum(costs[step] for step in steps), states))
    return sorted(found)


def random_machine(chance, names, letters):
    """Return a machine in which each arrow, start and end stands by chance."""
    prices = chance.choice([[0, 1], [0, 1, 2, 5], [1], [0], [0, 99]])
    density = chance.choice([2, 3, 5])
    arrows = [
        (state, letter, after, chance.choice(prices))
        for state in names for letter in letters for after in names if chance.randrange(6) < density
    ]
    chance.shuffle(arrows)
    starts = [name for name in names if chance.randrange(2)]
    return Machine(arrows, starts, [name for name in names if chance.randrange(2)])


def rows_up_to(letters, length):
    """Return all rows of the letters that have at most this length."""
    return ["".join(signs) for many in range(length + 1) for signs in itertools.product(letters, repeat=many)]
