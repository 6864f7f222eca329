"""Expressions: their rows, and their tallies and marks along machines."""

from enoughpaid.checks import is_integer, is_letter
from enoughpaid.errors import BadExpression, BadNumber, NotSettled
from enoughpaid.prices import follow
from enoughpaid.tallies import tally_of

SIGNS_OF_A_STAR = ")*"


def stars(text):
    """Return the number of starred parts of an expression."""
    check_expression(text)
    return text.count("*")


def letters(text):
    """Return the number of letters of an expression, each as often as it stands there."""
    check_expression(text)
    return len([sign for sign in text if is_letter(sign)])


def row_of(text, n):
    """Return the row of an expression at n."""
    check_expression(text)
    if not is_integer(n) or n < 1:
        raise BadNumber(n)
    return put_together(
        text,
        lambda letter: letter,
        lambda row, other: row + other,
        lambda inner, part: inner * n,
    )


def tally_along(machine, text):
    """Return the tally of an expression for a machine."""
    check_expression(text)
    return put_together(
        text,
        lambda letter: tally_of(machine, letter),
        lambda tally, other: tally.then(other),
        tally_starred,
    )


def along(machine, text):
    """Return the mark of an expression along a machine."""
    return tally_along(machine, text).between(machine.starts, machine.ends)


def ceiling(machine, text):
    """Return a number that the price of the row of an expression exceeds for no n, None if there is none."""
    if along(machine, text) not in ("free", "some"):
        return None
    limits = put_together(text, lambda letter: limits_of(machine, letter), limits_behind, limits_starred)
    found = [row[end] for start, row in limits.items() if start in machine.starts for end in machine.ends if end in row]
    return min(found)


def check_expression(text):
    """Raise BadExpression for an object that is not an expression."""
    if not isinstance(text, str):
        raise BadExpression(0)
    place = wrong_place(text)
    if place is not None:
        raise BadExpression(place)


def wrong_place(text):
    """Return the index where a string stops being an expression, its length if it ends too early, None if it is one."""
    depth = 0
    # An expression begins as one in brackets does.
    before = "("
    for place, sign in enumerate(text):
        if not may_follow(before, sign, depth):
            return place
        if sign == "(":
            depth += 1
        if sign == ")":
            depth -= 1
        before = sign
    has_ended = depth == 0 and before not in ("(", ")")
    return None if has_ended else len(text)


def may_follow(before, sign, depth):
    """Tell whether an expression may go on with a sign behind another one, where so many brackets are open."""
    if before == ")" or sign == "*":
        return before + sign == SIGNS_OF_A_STAR
    if sign == ")":
        return depth > 0 and before != "("
    return sign == "(" or is_letter(sign)


def put_together(text, of_letter, behind, starred):
    """Return what an expression is worth.

    A letter is worth of_letter(letter), a worth with another one behind it behind(worth, other), and a starred part
    starred(worth, part), where worth is that of the expression in its brackets. Starred parts are asked for in the
    order in which they end.
    """
    # For each open bracket the worths of the parts ahead of it, and its place.
    waiting = []
    worths = []
    for place, sign in enumerate(text):
        if sign == "(":
            waiting.append((worths, place))
            worths = []
        elif sign == ")":
            inner = one_behind_the_other(worths, behind)
            worths, begin = waiting.pop()
            worths.append(starred(inner, text[begin:place] + SIGNS_OF_A_STAR))
        elif sign != "*":
            worths.append(of_letter(sign))
    return one_behind_the_other(worths, behind)


def one_behind_the_other(worths, behind):
    """Return the worth of parts one behind the other."""
    total = worths[0]
    for worth in worths[1:]:
        total = behind(total, worth)
    return total


def tally_starred(tally, part):
    """Return the repeated tally of the expression in the brackets of a starred part."""
    if not tally.is_settled():
        raise NotSettled(part)
    return tally.repeated()


def limits_of(machine, letter):
    """Return the prices of a letter between two states, as a dict of dicts."""
    return {state: follow(machine, letter, [state]) for state in machine.states}


def limits_behind(limits, other):
    """Return numbers that the prices of a row with another one behind it do not exceed."""
    return {state: cheapest_ways(limits[state], other) for state in limits}


def cheapest_ways(row, other):
    """Return the least sums of a number to a state between and one onwards from there, by the state onwards."""
    onwards = {}
    for middle, limit in row.items():
        for after, more in other[middle].items():
            onwards[after] = min(limit + more, onwards.get(after, limit + more))
    return onwards


def limits_starred(limits, part):
    """Return numbers that the prices of a row repeated do not exceed, however often it is repeated.

    From twice on the way leads to a state with a free round, stays there, and leads away.
    """
    resting = {
        state: {after: limit for after, limit in row.items() if limits[after].get(after) == 0}
        for state, row in limits.items()
    }
    twice = limits_behind(resting, limits)
    return {
        state: {after: max(limit, limits[state][after]) for after, limit in row.items()}
        for state, row in twice.items()
    }
