"""Tells names, letters, rows, prices and arrows from all other objects."""

from enoughpaid.errors import BadRow, UnknownState

LONGEST_NAME = 8
LONGEST_ROW = 5000
HIGHEST_PRICE = 99
ARROW_PARTS = 4


def is_integer(value):
    """Tell whether a value is an integer; True and False are none."""
    return isinstance(value, int) and not isinstance(value, bool)


def has_only_letters(text):
    """Tell whether a string has at least one sign and only those from a to z."""
    return text.isascii() and text.isalpha() and text.islower()


def is_name(value):
    """Tell whether a value is a name."""
    return isinstance(value, str) and len(value) <= LONGEST_NAME and has_only_letters(value)


def is_letter(value):
    """Tell whether a value is a letter."""
    return isinstance(value, str) and len(value) == 1 and has_only_letters(value)


def is_price(value):
    """Tell whether a value is a price."""
    return is_integer(value) and 0 <= value <= HIGHEST_PRICE


def is_row(value):
    """Tell whether a value is a row that is not too long."""
    if not isinstance(value, str) or len(value) > LONGEST_ROW:
        return False
    return value == "" or has_only_letters(value)


def is_list(value):
    """Tell whether a value is a list, or a tuple, which may be passed for one."""
    return isinstance(value, (list, tuple))


def is_arrow(value):
    """Tell whether a value is an arrow, as a tuple or as a list."""
    if not is_list(value) or len(value) != ARROW_PARTS:
        return False
    state, letter, after, cost = value
    return is_name(state) and is_letter(letter) and is_name(after) and is_price(cost)


def check_row(row):
    """Raise BadRow for an object that is not a row."""
    if not is_row(row):
        raise BadRow(row)


def check_state(states, state):
    """Raise UnknownState for an object that is not one of the states."""
    # An object of a foreign class may call itself equal to any name.
    if not isinstance(state, str) or state not in states:
        raise UnknownState(state)
