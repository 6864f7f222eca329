"""The prices of rows, and the best runs on them."""

from enoughpaid.checks import check_row, check_state


def price(machine, row):
    """Return the price of a row, None if it is not read."""
    check_row(row)
    return least(follow(machine, row, machine.starts), machine.ends)


def best(machine, row):
    """Return the best run on a row, None if the row is not read."""
    check_row(row)
    moves = moves_by_letter(machine)
    ahead = prices_ahead(machine, row)
    starts = [(ahead[0][state], state) for state in machine.starts if state in ahead[0]]
    if not starts:
        return None
    run = [min(starts)[1]]
    for place, letter in enumerate(row):
        run.append(cheapest_next(moves[letter], run[-1], ahead[place + 1]))
    return tuple(run)


def between(machine, row, state, other):
    """Return the price of a row between two states, None if it is not read so."""
    check_row(row)
    check_state(machine.states, state)
    check_state(machine.states, other)
    return least(follow(machine, row, [state]), [other])


def least(prices, states):
    """Return the least of the prices at some states, None if there is none."""
    return min([prices[state] for state in states if state in prices], default=None)


def follow(machine, row, starts):
    """Return the prices at all states that the row leads to from the starts."""
    moves = moves_by_letter(machine)
    prices = {state: 0 for state in starts}
    for letter in row:
        prices = advance(prices, moves.get(letter, []))
    return prices


def prices_ahead(machine, row):
    """Return for each place of the row the prices from the states there to an end."""
    moves = moves_by_letter(machine)
    ahead = [{state: 0 for state in machine.ends}]
    for letter in row[::-1]:
        back = [(after, state, cost) for state, after, cost in moves.get(letter, [])]
        ahead.append(advance(ahead[-1], back))
    return ahead[::-1]


def moves_by_letter(machine):
    """Return for each letter its moves: a state, the next state and the price."""
    moves = {letter: [] for letter in machine.letters}
    for state, letter, after, cost in machine.arrows:
        moves[letter].append((state, after, cost))
    return moves


def advance(prices, moves):
    """Return the prices at the states to which the moves of one letter lead."""
    reached = {}
    for state, after, cost in moves:
        if state in prices:
            total = prices[state] + cost
            reached[after] = min(total, reached.get(after, total))
    return reached


def cheapest_next(moves, state, ahead):
    """Return the next state on the best run: the first of those that cost least."""
    choices = [
        (cost + ahead[after], after)
        for source, after, cost in moves
        if source == state and after in ahead
    ]
    return min(choices)[1]
