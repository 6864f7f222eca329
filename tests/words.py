"""Points 8 to 17 in the words of the document: tallies as dicts of marks, and expressions tried one after the other.

Nothing of this is quick, and nothing of it uses the package but the arrows, starts, ends and states of machines.
"""

import itertools

WORDS = ["free", "some", "many", "never"]


def least(marks):
    """Return the least of some marks, never if there are none."""
    return min(marks, key=WORDS.index, default="never")


def greatest(marks):
    """Return the greatest of some marks."""
    return max(marks, key=WORDS.index)


def letter_marks(machine, letter):
    """Return the marks of the row of one letter, by pairs of states."""
    costs = {(state, after): cost for state, sign, after, cost in machine.arrows if sign == letter}
    marks = {}
    for pair in itertools.product(machine.states, repeat=2):
        marks[pair] = "never" if pair not in costs else "free" if costs[pair] == 0 else "some"
    return marks


def names_of(marks):
    """Return the states of some marks."""
    return sorted({state for state, other in marks})


def behind(earlier, later):
    """Return the marks of one tally with another one put behind it, as in point 9."""
    names = names_of(earlier)
    return {
        (first, second): least([greatest([earlier[first, middle], later[middle, second]]) for middle in names])
        for first, second in earlier
    }


def is_settled(marks):
    """Tell whether a tally is settled, as in point 10."""
    return behind(marks, marks) == marks


def repeated(marks):
    """Return the marks of a settled tally repeated, as in point 10."""
    names = names_of(marks)
    rounds = {name: marks[name, name] if marks[name, name] in ("free", "never") else "many" for name in names}
    return {
        (first, second): least(
            [greatest([marks[first, middle], rounds[middle], marks[middle, second]]) for middle in names]
        )
        for first, second in marks
    }


def along(marks, machine):
    """Return the least mark from a start to an end, as in point 13."""
    return least([marks[start, end] for start in machine.starts for end in machine.ends])


def marks_of(tally):
    """Return the marks of a tally of the package as a dict."""
    return {pair: tally.at(*pair) for pair in itertools.product(tally.states, repeat=2)}


def fixed(marks_of_each):
    """Return what tells tallies, one for each machine, from others."""
    return tuple(tuple(sorted(marks.items())) for marks in marks_of_each)


def closure_of(machines, most=None):
    """Return the tallies of all expressions, one for each machine, with the weight and text of the least one.

    They are found by putting all tallies behind each other, and repeating all, until nothing changes any more. It is
    None if there are more tallies than the most.
    """
    found, texts = {}, {}

    def offer(marks_of_each, weight):
        key = fixed(marks_of_each)
        if key in texts and texts[key] <= weight:
            return False
        found[key], texts[key] = marks_of_each, weight
        return True

    for letter in sorted({letter for machine in machines for letter in machine.letters}):
        offer([letter_marks(machine, letter) for machine in machines], (0, 1, letter))
    changed = True
    while changed:
        changed = False
        if most is not None and len(found) > most:
            return None
        for key in list(found):
            stars, letters, text = texts[key]
            if all(is_settled(marks) for marks in found[key]):
                changed |= offer([repeated(marks) for marks in found[key]], (stars + 1, letters, f"({text})*"))
        for one, other in itertools.product(list(found), repeat=2):
            weight = tuple(part + more for part, more in zip(texts[one], texts[other]))
            changed |= offer([behind(*pair) for pair in zip(found[one], found[other])], weight)
    return [(found[key], texts[key]) for key in sorted(found, key=lambda key: texts[key])]


def expressions_up_to(letters, stars, length):
    """Return all expressions with these numbers of starred parts and letters at most, each with its weight."""
    sizes = {}
    for many in range(stars + 1):
        for size in range(1, length + 1):
            parts = []
            for first_stars, first_size in itertools.product(range(many + 1), range(1, size + 1)):
                firsts = list(letters) if (first_stars, first_size) == (0, 1) else []
                if first_stars:
                    firsts = firsts + [f"({inner})*" for inner in sizes.get((first_stars - 1, first_size), [])]
                rests = sizes.get((many - first_stars, size - first_size), [])
                if (first_stars, first_size) == (many, size):
                    rests = [""]
                parts += [first + rest for first in firsts for rest in rests]
            sizes[many, size] = sorted(parts)
    return [(many, size, text) for many, size in sorted(sizes) for text in sizes[many, size]]


def tally_of_expression(machine, text):
    """Return the marks of an expression, as in point 12, None if it has no tally."""
    total, place = None, 0
    while place < len(text):
        if text[place] == "(":
            depth, end = 1, place + 1
            while depth:
                depth += {"(": 1, ")": -1}.get(text[end], 0)
                end += 1
            inner = tally_of_expression(machine, text[place + 1:end - 1])
            if inner is None or not is_settled(inner):
                return None
            marks, place = repeated(inner), end + 1
        else:
            marks, place = letter_marks(machine, text[place]), place + 1
        total = marks if total is None else behind(total, marks)
    return total
