"""Known machines: counters, capped counters, shortest-gap machines and nested machines."""

from enoughpaid.machines import Machine


def counter(letters, paid):
    """Return the machine that pays 1 for each paid letter."""
    return Machine(loops("count", letters, paid), ["count"], ["count"])


def capped(letters, paid, number):
    """Return the machine that pays 1 for each paid letter, or the number once at the first one."""
    unpaid = [letter for letter in letters if letter not in paid]
    arrows = loops("before", unpaid, "") + loops("counted", letters, paid) + loops("capped", letters, "")
    for letter in paid:
        arrows.append(("before", letter, "counted", 1))
        arrows.append(("before", letter, "capped", number))
    return Machine(arrows, ["before"], ["before", "counted", "capped"])


def gap(first, second):
    """Return the machine that pays for the first letters in the shortest gap between two second ones."""
    arrows = loops("before", [first, second], "") + loops("after", [first, second], "")
    arrows.append(("before", second, "within", 0))
    arrows.append(("within", first, "within", 1))
    arrows.append(("within", second, "after", 0))
    return Machine(arrows, ["before"], ["after"])


def nested(letters):
    """Return the nested machine of the letters."""
    machine = counter(letters[:1], letters[:1])
    for number in range(1, len(letters)):
        machine = around(machine, letters[:number], letters[number])
    return machine


def around(inner, others, last):
    """Return the nested machine of the other letters and a last one; the inner one is that of the others."""
    letters = others + last
    # The last letter makes these names different from those of the inner machine.
    count, before, after = "count" + last, "before" + last, "after" + last
    arrows = loops(count, letters, last) + loops(before, letters, "") + loops(after, letters, "")
    arrows.extend(inner.arrows)
    arrows.extend([(before, last, state, 0) for state in inner.starts])
    arrows.extend([(state, last, after, 0) for state in inner.ends])
    return Machine(arrows, [count, before], [count, after])


def loops(state, letters, paid):
    """Return arrows that stay at a state, one for each letter, and pay 1 for the paid ones."""
    return [(state, letter, state, 1 if letter in paid else 0) for letter in letters]
