"""Arrows made free and made dear: freed machines, least cures, and supports."""

import copy
import itertools
import random
import unittest
from unittest import mock

from enoughpaid.building import either, summed
from enoughpaid.closures import bounded
from enoughpaid.curing import cures, freed, supports
from enoughpaid.errors import Unbounded, UnknownArrow
from enoughpaid.known import capped, counter, gap, nested
from enoughpaid.machines import Machine
from enoughpaid.prices import price
from helpers import NOT_NAMES, random_machine, rows_up_to

LOOP = [("s", "a", "s", 1)]
SMALL = [
    Machine([], [], []), Machine([], ["s"], ["e"]), Machine([], ["s"], ["s"]), Machine(LOOP, [], ["s"]),
    Machine(LOOP, ["s"], []), Machine(LOOP, [], []),
]
NOT_STEPS = [
    None, 0, True, 1.5, "", "a", "sas", b"sas", (), [], ("s",), ("s", "a"), ("s", "a", "s", 1), ["s", "a", "s", 1],
    {"s": 1, "a": 1}, {"s", "a", "t"}, object(), mock.ANY, (mock.ANY, mock.ANY, mock.ANY), ("s", "a", None),
    (["s"], "a", "s"), ("s", ["a"], "s"), ("s", "a", ["s"]), ({}, {}, {}), ("s", "a", 0), ("s", 1, "s"), (1, "a", "s"),
]


def steps_of(machine, is_wanted):
    """Return the arrows whose price is wanted, without their prices."""
    return [arrow[:3] for arrow in machine.arrows if is_wanted(arrow[3])]


def priced(machine, steps, cost):
    """Return the machine in which some arrows have this price."""
    arrows = [(*arrow[:3], cost if arrow[:3] in steps else arrow[3]) for arrow in machine.arrows]
    return Machine(arrows, machine.starts, machine.ends)


def least_cures(machine):
    """Return the least cures, by trying all sets of paid arrows."""
    paid = steps_of(machine, lambda cost: cost > 0)
    found = []
    for many in range(len(paid) + 1):
        for chosen in itertools.combinations(paid, many):
            if not any(set(cure) <= set(chosen) for cure in found) and bounded(priced(machine, chosen, 0)):
                found.append(chosen)
    return found


def few_paid(chance, names, letters, most):
    """Return a random machine with no more paid arrows than the most."""
    machine = random_machine(chance, names, letters)
    paid = steps_of(machine, lambda cost: cost > 0)
    chance.shuffle(paid)
    return priced(machine, paid[most:], 0)


class FreedTest(unittest.TestCase):
    def test_known_machines(self):
        self.assertEqual(freed(counter("ab", "a"), [("count", "a", "count")]), counter("ab", ""))
        self.assertEqual(freed(counter("abc", "abc"), [("count", "c", "count"), ("count", "a", "count")]), counter("abc", "b"))
        machine = gap("a", "b")
        free = freed(machine, [("within", "a", "within")])
        self.assertEqual([price(free, row) for row in ("baab", "bb", "ab", "babaab")], [0, 0, None, 0])
        self.assertEqual([free.starts, free.ends, free.states], [machine.starts, machine.ends, machine.states])

    def test_all_sets_of_arrows(self):
        chance = random.Random(71)
        for _ in range(30):
            machine = random_machine(chance, ["p", "q"], "ab")
            passed = copy.deepcopy(machine)
            steps = steps_of(machine, lambda cost: True)
            for many in range(min(len(steps), 3) + 1):
                for chosen in itertools.combinations(steps, many):
                    told = freed(machine, list(chosen))
                    self.assertIsInstance(told, Machine)
                    self.assertEqual(told, priced(machine, chosen, 0))
            self.assertEqual(machine, passed)

    def test_free_arrows_repeats_lists_and_tuples(self):
        machine = gap("a", "b")
        self.assertEqual(freed(machine, [("after", "a", "after")]), machine)
        self.assertEqual(freed(machine, []), machine)
        expected = freed(machine, [("within", "a", "within")])
        for arrows in (
            [["within", "a", "within"]], (("within", "a", "within"),), [("within", "a", "within"), ["within", "a", "within"]],
            [("after", "a", "after"), ("within", "a", "within")],
        ):
            passed = copy.deepcopy(arrows)
            self.assertEqual(freed(machine, arrows), expected)
            self.assertEqual(freed(arrows=arrows, machine=machine), expected)
            self.assertEqual(arrows, passed)

    def fails(self, machine, arrows, arrow):
        with self.assertRaises(UnknownArrow) as caught:
            freed(machine, arrows)
        self.assertIs(type(caught.exception), UnknownArrow)
        self.assertIs(caught.exception.arrow, arrow)

    def test_things_that_are_no_arrows(self):
        for machine in (Machine(LOOP, ["s"], ["s"]), gap("a", "b"), Machine([], [], [])):
            for arrow in NOT_STEPS + [("s", "b", "s"), ("t", "a", "s"), ("s", "a", "t"), ("a", "s", "s")]:
                self.fails(machine, [arrow], arrow)
                self.fails(machine, [arrow, "x", None], arrow)
        for name in NOT_NAMES:
            for arrow in (("s", name, "s"), ("s", "a", name), (name, "a", "s")):
                if name != "a":
                    self.fails(Machine(LOOP, [], []), [("s", "a", "s"), arrow, ("s", "a", "s")], arrow)

    def test_states_without_such_an_arrow(self):
        machine = gap("a", "b")
        for arrow in [("before", "a", "within"), ("within", "b", "within"), ("after", "b", "before"), ("count", "a", "count")]:
            self.fails(machine, [arrow], arrow)


class CuresTest(unittest.TestCase):
    def test_example_of_the_document(self):
        self.assertEqual(
            [cures(counter("ab", "ab")), cures(capped("a", "a", 1)), cures(gap("a", "b"))],
            [[(("count", "a", "count"), ("count", "b", "count"))], [()], [(("within", "a", "within"),)]],
        )

    def test_by_hand(self):
        self.assertEqual(cures(counter("ab", "b")), [(("count", "b", "count"),)])
        self.assertEqual(cures(nested("ab"))[0], (("count", "a", "count"),))
        self.assertEqual(len(cures(nested("ab"))), 2)
        self.assertEqual([len(cure) for cure in cures(nested("abc"))], [1, 1, 1])
        both = summed(counter("ab", "a"), counter("ab", "b"))
        self.assertEqual([len(cure) for cure in cures(both)], [2])
        one = either(counter("ab", "a"), counter("ab", "b"))
        self.assertEqual([len(cure) for cure in cures(one)], [1, 1])
        self.assertEqual(cures(machine=one), cures(one))

    def test_fewer_arrows_come_first(self):
        # Either the loop of z is made free, or both loops of a; the names of the latter come first.
        arrows = [("a", "x", "a", 1), ("a", "y", "a", 1), ("z", "x", "z", 1), ("z", "y", "z", 0)]
        machine = Machine(arrows, ["a", "z"], ["a", "z"])
        self.assertEqual(cures(machine), [(("z", "x", "z"),), (("a", "x", "a"), ("a", "y", "a"))])

    def test_bounded_machines(self):
        for machine in SMALL + [counter("ab", ""), capped("ab", "a", 7), Machine([("s", "a", "t", 9)], ["s"], ["t"])]:
            self.assertEqual(cures(machine), [()])

    def test_held_against_all_sets(self):
        chance = random.Random(72)
        sizes = set()
        for _ in range(150):
            machine = few_paid(chance, ["p", "q", "r"][:chance.randrange(1, 4)], chance.choice(["a", "ab", "abc"]), 6)
            passed = copy.deepcopy(machine)
            told = cures(machine)
            self.assertIs(type(told), list)
            self.assertEqual(told, least_cures(machine))
            self.assertEqual(told, sorted(told, key=lambda cure: (len(cure), cure)))
            for cure in told:
                self.assertIs(type(cure), tuple)
                self.assertEqual(list(cure), sorted(cure))
            self.assertEqual(machine, passed)
            sizes.add((len(told), len(told[-1])))
        self.assertLessEqual({(1, 0), (1, 1), (1, 2), (2, 1)}, sizes)

    def test_eight_paid_arrows(self):
        letters = "abcdefgh"
        machine = Machine([("s", letter, "s", 1) for letter in letters], ["s"], ["s"])
        self.assertEqual(cures(machine), [tuple(("s", letter, "s") for letter in letters)])
        names = [letter + "s" for letter in letters]
        machine = Machine([(name, "a", name, 1) for name in names], names, names)
        self.assertEqual(cures(machine), [((name, "a", name),) for name in names])
        arrows = [(name, letter, name, 1) for name in ("p", "q", "r", "t") for letter in "ab"]
        machine = Machine(arrows, ["p", "q", "r", "t"], ["p", "q", "r", "t"])
        self.assertEqual(cures(machine), least_cures(machine))


class SupportsTest(unittest.TestCase):
    def test_by_hand(self):
        self.assertEqual(supports(counter("ab", "")), [("count", "a", "count"), ("count", "b", "count")])
        self.assertEqual(supports(machine=counter("b", "")), [("count", "b", "count")])
        # A free loop that stands twice supports nothing.
        twice = Machine([(state, "a", state, 0) for state in "pq"], ["p", "q"], ["p", "q"])
        self.assertEqual(supports(twice), [])
        once = Machine([("p", "a", "p", 0), ("q", "a", "q", 1), ("p", "b", "p", 0), ("q", "b", "p", 0)], ["p", "q"], ["p"])
        self.assertEqual(supports(once), [("p", "a", "p"), ("p", "b", "p")])
        # An arrow that is taken once at most supports nothing, nor does one that is on no run.
        line = Machine([("s", "a", "t", 0), ("t", "b", "t", 0), ("x", "a", "x", 0), ("t", "c", "x", 0)], ["s"], ["t"])
        self.assertEqual(supports(line), [("t", "b", "t")])

    def test_small_machines(self):
        for machine in SMALL:
            self.assertEqual(supports(machine), [])

    def test_held_against_all_free_arrows(self):
        chance = random.Random(73)
        counts = set()
        for _ in range(150):
            machine = random_machine(chance, ["p", "q", "r"][:chance.randrange(1, 4)], chance.choice(["a", "ab", "abc"]))
            passed = copy.deepcopy(machine)
            if not bounded(machine):
                with self.assertRaises(Unbounded) as caught:
                    supports(machine)
                self.assertIs(type(caught.exception), Unbounded)
                counts.add(None)
                continue
            told = supports(machine)
            self.assertIs(type(told), list)
            free = steps_of(machine, lambda cost: cost == 0)
            self.assertEqual(told, [step for step in free if not bounded(priced(machine, [step], 1))])
            self.assertEqual(told, sorted(told))
            self.assertEqual(machine, passed)
            counts.add(len(told))
        self.assertLessEqual({None, 0, 1, 2}, counts)

    def test_capped_counter(self):
        told = supports(capped("ab", "a", 3))
        rows = rows_up_to("ab", 6)
        machine = capped("ab", "a", 3)
        self.assertEqual(len(told), 3)
        for step in told:
            dear = priced(machine, [step], 1)
            self.assertGreater(max(price(dear, row) for row in rows), max(price(machine, row) for row in rows))

    def test_machines_without_bounds(self):
        for machine in (counter("a", "a"), gap("a", "b"), nested("ab"), counter("abc", "b")):
            with self.assertRaises(Unbounded) as caught:
                supports(machine)
            self.assertIs(type(caught.exception), Unbounded)


if __name__ == "__main__":
    unittest.main()
