"""Machines, and the texts of machines."""

from enoughpaid.checks import is_arrow, is_name
from enoughpaid.errors import BadArrow, BadState, BadText, TooMany

MOST_ARROWS = 400
MOST_STATES = 40
FIRST_ARROW_LINE = 3


class Machine:
    """An immutable machine: arrows, starts and ends."""

    def __init__(self, arrows, starts, ends):
        check_arrows(arrows)
        check_names(starts)
        check_names(ends)
        counted = cheapest(arrows)
        states = all_states(counted, starts, ends)
        if len(states) > MOST_STATES:
            raise TooMany(len(states))
        self.held_arrows = counted
        self.held_starts = each_once(starts)
        self.held_ends = each_once(ends)
        self.held_states = states
        self.held_letters = each_once([letter for state, letter, after, cost in counted])

    def __eq__(self, other):
        return (
            isinstance(other, Machine)
            and self.held_arrows == other.held_arrows
            and self.held_starts == other.held_starts
            and self.held_ends == other.held_ends
        )

    @property
    def arrows(self):
        """The arrows that count."""
        return self.held_arrows

    @property
    def starts(self):
        """The states where runs begin."""
        return self.held_starts

    @property
    def ends(self):
        """The states where runs end."""
        return self.held_ends

    @property
    def states(self):
        """All names that occur in the arrows, the starts and the ends."""
        return self.held_states

    @property
    def letters(self):
        """The letters of the arrows."""
        return self.held_letters

    def text(self):
        """Return the text of the machine."""
        lines = [" ".join(["start", *self.held_starts]), " ".join(["end", *self.held_ends])]
        for state, letter, after, cost in self.held_arrows:
            lines.append(f"{state} {letter} {after} {cost}")
        return "\n".join(lines)

    @classmethod
    def parse(cls, text):
        """Return the machine that has the text."""
        lines = text.split("\n")
        starts = read_names(lines, 1, "start")
        ends = read_names(lines, 2, "end")
        return cls(read_arrows(lines), starts, ends)


def check_arrows(arrows):
    """Raise BadArrow for the first item that is not an arrow or is one too many."""
    for line, arrow in enumerate(arrows, start=1):
        if line > MOST_ARROWS or not is_arrow(arrow):
            raise BadArrow(line)


def check_names(states):
    """Raise BadState for the first item that is not a name."""
    for state in states:
        if not is_name(state):
            raise BadState(state)


def cheapest(arrows):
    """Return the arrows that count, the cheapest of those alike, in ascending order."""
    costs = {}
    for state, letter, after, cost in arrows:
        step = (state, letter, after)
        costs[step] = min(cost, costs.get(step, cost))
    return tuple(sorted([(*step, costs[step]) for step in costs]))


def each_once(names):
    """Return the names as an ascending tuple, each once."""
    return tuple(sorted(set(names)))


def all_states(arrows, starts, ends):
    """Return all names that occur in the arrows, the starts and the ends."""
    names = [*starts, *ends]
    for state, letter, after, cost in arrows:
        names.extend([state, after])
    return each_once(names)


def read_names(lines, number, word):
    """Return the names behind the word with which the line of this number begins."""
    if number > len(lines):
        raise BadText(number)
    words = lines[number - 1].split(" ")
    names = words[1:]
    if words[0] != word or not all([is_name(name) for name in names]):
        raise BadText(number)
    if names != sorted(set(names)):
        raise BadText(number)
    return names


def read_arrows(lines):
    """Return the arrows of the lines of a text, which stand behind the starts and ends."""
    arrows = []
    for number, line in enumerate(lines[FIRST_ARROW_LINE - 1:], start=FIRST_ARROW_LINE):
        arrow = read_arrow(line)
        if arrow is None or len(arrows) == MOST_ARROWS:
            raise BadText(number)
        # Prices are left out: of arrows alike but for the price a text has only one.
        if arrows and arrows[-1][:3] >= arrow[:3]:
            raise BadText(number)
        arrows.append(arrow)
    return arrows


def read_arrow(line):
    """Return the arrow of a line, None if the line does not have the form of one."""
    words = line.split(" ")
    if not is_number(words[-1]):
        return None
    arrow = (*words[:-1], int(words[-1]))
    return arrow if is_arrow(arrow) else None


def is_number(word):
    """Tell whether a word is a number as a price is written, without a zero ahead."""
    # The length comes first: Python refuses to read numbers of thousands of digits.
    return len(word) <= 2 and word.isascii() and word.isdigit() and str(int(word)) == word
