"""Tallies: for each two states a mark that tells how dear it is to get from one to the other."""

from enoughpaid.checks import check_row, check_state, is_list, is_name
from enoughpaid.errors import BadTally, NotSettled
from enoughpaid.prices import follow

MARKS = ("free", "some", "many", "never")
MOST_TALLIED = 8

# A rank is the place of a mark in MARKS, so marks are compared by their ranks.
FREE = 0
SOME = 1
MANY = 2
NEVER = 3


class Tally:
    """An immutable tally of some states."""

    def __init__(self, states, marks):
        if not is_tally(states, marks):
            raise BadTally()
        order = [states.index(state) for state in sorted(states)]
        self.held_states = tuple(sorted(states))
        self.held_ranks = tuple([tuple([MARKS.index(marks[at][place]) for place in order]) for at in order])

    def __eq__(self, other):
        return (
            isinstance(other, Tally)
            and self.held_states == other.held_states
            and self.held_ranks == other.held_ranks
        )

    @property
    def states(self):
        """The states, in ascending order."""
        return self.held_states

    @property
    def marks(self):
        """The rows of marks, from each state to all states."""
        return tuple([tuple([MARKS[rank] for rank in ranks]) for ranks in self.held_ranks])

    def at(self, state, other):
        """Return the mark from a state to another one."""
        return self.between([state], [other])

    def then(self, other):
        """Return the tally with the other one put behind it."""
        if not isinstance(other, Tally) or self.held_states != other.held_states:
            raise BadTally()
        return tally_with(self.held_states, put_behind(self.held_ranks, other.held_ranks))

    def is_settled(self):
        """Tell whether the tally put behind itself is the same."""
        return put_behind(self.held_ranks, self.held_ranks) == self.held_ranks

    def repeated(self):
        """Return the repeated tally."""
        if not self.is_settled():
            raise NotSettled("")
        return tally_with(self.held_states, repeat(self.held_ranks))

    def between(self, starts, ends):
        """Return the least of the marks from a start to an end, never if there are none."""
        for state in [*starts, *ends]:
            check_state(self.held_states, state)
        rows = [self.held_ranks[self.held_states.index(state)] for state in starts]
        places = [self.held_states.index(state) for state in ends]
        return MARKS[min([ranks[place] for ranks in rows for place in places], default=NEVER)]


def tally_of(machine, row):
    """Return the tally of a row for a machine."""
    check_row(row)
    rows = []
    for state in machine.states:
        prices = follow(machine, row, [state])
        rows.append(tuple([rank_of(prices.get(after)) for after in machine.states]))
    return tally_with(machine.states, tuple(rows))


def rank_of(cost):
    """Return the rank of a price of a row, which is None if there is no run on it."""
    if cost is None:
        return NEVER
    return FREE if cost == 0 else SOME


def tally_with(states, ranks):
    """Return the tally of ascending states with rows of ranks, tuples, that are known to be right."""
    # A machine may have somewhat more states than may be passed for a tally, so nothing is checked here.
    tally = Tally([], [])
    tally.held_states = states
    tally.held_ranks = ranks
    return tally


def put_behind(earlier, later):
    """Return the ranks of a tally with a later one put behind it."""
    columns = list(zip(*later))
    return tuple([tuple([least_way(ranks, column) for column in columns]) for ranks in earlier])


def least_way(ranks, column):
    """Return the least rank of a way there and onwards, over all states between."""
    return min([max(there, onwards) for there, onwards in zip(ranks, column)])


def repeat(ranks):
    """Return the ranks of a settled tally repeated."""
    rounds = [round_of(row[place]) for place, row in enumerate(ranks)]
    around = [[max(rank, turn) for rank, turn in zip(row, rounds)] for row in ranks]
    return put_behind(around, ranks)


def round_of(rank):
    """Return the rank of the round at a state that has this rank to itself."""
    return rank if rank in (FREE, NEVER) else MANY


def is_tally(states, marks):
    """Tell whether objects are the states and the marks of a tally."""
    if not is_list(states) or not is_list(marks) or len(states) > MOST_TALLIED:
        return False
    if not all([is_name(state) for state in states]) or len(set(states)) < len(states):
        return False
    return len(marks) == len(states) and all([is_mark_row(row, len(states)) for row in marks])


def is_mark_row(value, length):
    """Tell whether a value is a list of marks of this length."""
    return is_list(value) and len(value) == length and all([is_mark(mark) for mark in value])


def is_mark(value):
    """Tell whether a value is a mark."""
    return isinstance(value, str) and value in MARKS
