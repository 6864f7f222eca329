"""Prices and best runs, held against all runs of small machines."""

import copy
import random
import unittest
from unittest import mock

from enoughpaid.errors import BadRow, PaidError, UnknownState
from enoughpaid.machines import Machine
from enoughpaid.prices import best, between, price
from helpers import NOT_ROWS, all_runs, random_machine, rows_up_to

GAP = Machine(
    [
        ("before", "a", "before", 0), ("before", "b", "before", 0), ("before", "b", "within", 0),
        ("within", "a", "within", 1), ("within", "b", "after", 0), ("after", "a", "after", 0),
        ("after", "b", "after", 0),
    ],
    ["before"],
    ["after"],
)
NOT_STATES = [
    "", "a", "x", "Before", "before ", "befor", "beforee", None, 0, True, 1.5, b"before", ("before",), ["before"],
    {"before": 1}, {"before"}, object(), mock.ANY,
]


class AgainstAllRunsTest(unittest.TestCase):
    def held_against_all_runs(self, machine, row):
        runs = all_runs(machine, row, machine.starts, machine.ends)
        self.assertEqual(price(machine, row), runs[0][0] if runs else None)
        self.assertEqual(best(machine, row), runs[0][1] if runs else None)
        for state in machine.states:
            for other in machine.states:
                runs = all_runs(machine, row, [state], [other])
                self.assertEqual(between(machine, row, state, other), runs[0][0] if runs else None)

    def test_three_states(self):
        chance = random.Random(3)
        for _ in range(60):
            machine = random_machine(chance, ["p", "q", "qa"], "ab")
            for row in rows_up_to("ab", 3) + ["abba", "aaaa", "babab", "c", "ac", "ca"]:
                self.held_against_all_runs(machine, row)

    def test_four_states(self):
        chance = random.Random(4)
        for _ in range(20):
            machine = random_machine(chance, ["d", "c", "b", "a"], "xyz")
            for row in ["", "x", "zy", "xyz", "zzx", "xyxy"]:
                self.held_against_all_runs(machine, row)

    def test_one_and_two_states(self):
        chance = random.Random(5)
        for _ in range(40):
            for names in (["p"], ["p", "q"]):
                machine = random_machine(chance, names, "ab")
                for row in rows_up_to("ab", 4):
                    self.held_against_all_runs(machine, row)


class PriceTest(unittest.TestCase):
    def test_gap(self):
        self.assertEqual([price(GAP, row) for row in ("baabab", "aab", "bb")], [1, None, 0])
        self.assertEqual(price(GAP, "baaabaaaabaab"), 2)

    def test_empty_row(self):
        self.assertEqual(price(Machine([], ["p"], ["p"]), ""), 0)
        self.assertEqual(price(Machine([], ["p", "q"], ["q", "r"]), ""), 0)
        self.assertIsNone(price(Machine([("p", "a", "q", 0)], ["p"], ["q"]), ""))
        self.assertIsNone(price(Machine([("p", "a", "p", 0)], [], ["p"]), ""))
        self.assertIsNone(price(Machine([("p", "a", "p", 0)], ["p"], []), ""))

    def test_nothing_is_read_without_starts_ends_or_arrows(self):
        loop = [("p", "a", "p", 0)]
        for machine in (Machine(loop, [], ["p"]), Machine(loop, ["p"], []), Machine([], ["p"], ["p"])):
            self.assertIsNone(price(machine, "a"))
            self.assertIsNone(best(machine, "a"))

    def test_letters_that_no_arrow_has(self):
        machine = Machine([("p", "a", "p", 1)], ["p"], ["p"])
        for row in ("b", "ab", "ba", "aba", "z" * 5000):
            self.assertIsNone(price(machine, row))
            self.assertIsNone(best(machine, row))
            self.assertIsNone(between(machine, row, "p", "p"))
        self.assertEqual(price(machine, "aa"), 2)

    def test_the_cheapest_of_arrows_alike(self):
        machine = Machine([("p", "a", "q", 7), ("p", "a", "q", 3), ("p", "a", "q", 9)], ["p"], ["q"])
        self.assertEqual(price(machine, "a"), 3)

    def test_several_starts_and_ends(self):
        arrows = [("p", "a", "r", 5), ("q", "a", "r", 2), ("q", "a", "s", 1)]
        self.assertEqual(price(Machine(arrows, ["p", "q"], ["r", "s"]), "a"), 1)
        self.assertEqual(price(Machine(arrows, ["p", "q"], ["r"]), "a"), 2)
        self.assertEqual(price(Machine(arrows, ["p"], ["r", "s"]), "a"), 5)

    def test_long_rows(self):
        machine = Machine([("p", "a", "p", 99), ("p", "b", "p", 0)], ["p"], ["p"])
        self.assertEqual(price(machine, "a" * 5000), 495000)
        self.assertEqual(best(machine, "ab" * 2500), ("p",) * 5001)
        self.assertEqual(between(machine, "ab" * 2500, "p", "p"), 247500)

    def test_long_row_on_a_large_machine(self):
        names = [first + second for first in "abcdefgh" for second in "vwxyz"]
        arrows = [(names[at], "a", names[(at + 1 + step) % 40], step) for at in range(40) for step in range(10)]
        machine = Machine(arrows, names[:1], names[:1])
        self.assertEqual(price(machine, "a" * 5000), 0)
        self.assertEqual(best(machine, "a" * 5000), tuple(names * 125 + names[:1]))
        self.assertEqual(price(machine, "a" * 4999), 1)
        self.assertEqual(between(machine, "a" * 4998, "av", "av"), 2)


class BestTest(unittest.TestCase):
    def test_empty_row(self):
        self.assertEqual(best(Machine([], ["q", "p", "o"], ["r", "q", "p"]), ""), ("p",))
        self.assertIsNone(best(Machine([], ["p"], ["q"]), ""))

    def test_kinds_of_values(self):
        self.assertIs(type(best(GAP, "bab")), tuple)
        self.assertEqual(best(GAP, "bab"), ("before", "within", "within", "after"))
        self.assertIsNone(best(GAP, "ba"))

    def test_first_of_several_best_runs(self):
        names = ["a", "b", "c"]
        machine = Machine([(state, "x", after, 1) for state in names for after in names], names, names)
        for length in range(6):
            self.assertEqual(best(machine, "x" * length), ("a",) * (length + 1))

    def test_an_early_state_counts_more_than_a_late_one(self):
        machine = Machine(
            [("s", "x", "a", 1), ("a", "x", "z", 1), ("s", "x", "b", 0), ("b", "x", "a", 2), ("b", "x", "z", 2)],
            ["s"],
            ["a", "z"],
        )
        self.assertEqual(best(machine, "xx"), ("s", "a", "z"))

    def test_a_cheaper_run_comes_before_an_earlier_one(self):
        machine = Machine(
            [("s", "x", "a", 0), ("a", "x", "e", 5), ("s", "x", "b", 1), ("b", "x", "e", 3)], ["s"], ["e"]
        )
        self.assertEqual(best(machine, "xx"), ("s", "b", "e"))
        two_starts = Machine([("a", "x", "e", 2), ("b", "x", "e", 1)], ["a", "b"], ["e"])
        self.assertEqual(best(two_starts, "x"), ("b", "e"))

    def test_a_dead_end_is_no_run(self):
        machine = Machine([("s", "x", "a", 0), ("s", "x", "b", 9), ("b", "y", "e", 9)], ["s"], ["e"])
        self.assertEqual(best(machine, "xy"), ("s", "b", "e"))


class BetweenTest(unittest.TestCase):
    def test_empty_row(self):
        for state in GAP.states:
            for other in GAP.states:
                self.assertEqual(between(GAP, "", state, other), 0 if state == other else None)

    def test_starts_and_ends_of_the_machine_do_not_count(self):
        machine = Machine([("p", "a", "q", 4), ("q", "a", "p", 2)], ["p"], ["p"])
        self.assertEqual(between(machine, "a", "q", "p"), 2)
        self.assertEqual(between(machine, "a", "p", "q"), 4)
        self.assertIsNone(between(machine, "a", "p", "p"))
        self.assertEqual(between(Machine([("p", "a", "q", 4)], [], []), "a", "p", "q"), 4)
        self.assertEqual(between(Machine([], ["s"], ["e"]), "", "e", "e"), 0)


class WrongValuesTest(unittest.TestCase):
    def fails_for_row(self, row, call, *passed):
        with self.assertRaises(BadRow) as caught:
            call(*passed)
        self.assertIs(type(caught.exception), BadRow)
        self.assertIs(caught.exception.row, row)

    def fails_for_state(self, state, *passed):
        with self.assertRaises(UnknownState) as caught:
            between(*passed)
        self.assertIs(type(caught.exception), UnknownState)
        self.assertIs(caught.exception.state, state)

    def test_objects_that_are_no_rows(self):
        for row in NOT_ROWS:
            self.fails_for_row(row, price, GAP, row)
            self.fails_for_row(row, best, GAP, row)
            self.fails_for_row(row, between, GAP, row, "before", "after")
            self.fails_for_row(row, price, Machine([], [], []), row)

    def test_5000_and_5001_letters(self):
        row = "b" + "a" * 4998 + "b"
        self.assertEqual(price(GAP, row), 4998)
        self.assertEqual(best(GAP, row), ("before",) + ("within",) * 4999 + ("after",))
        self.assertEqual(between(GAP, row, "before", "before"), 0)
        longer = row + "b"
        self.fails_for_row(longer, price, GAP, longer)
        self.fails_for_row(longer, best, GAP, longer)
        self.fails_for_row(longer, between, GAP, longer, "before", "after")

    def test_objects_that_are_no_states(self):
        for state in NOT_STATES:
            self.fails_for_state(state, GAP, "bab", state, "after")
            self.fails_for_state(state, GAP, "bab", "before", state)
            self.fails_for_state(state, GAP, "", state, state)

    def test_the_row_is_checked_first_then_the_first_state(self):
        self.fails_for_row("B", between, GAP, "B", "x", "y")
        self.fails_for_row(5, between, GAP, 5, "x", "after")
        self.fails_for_state("x", GAP, "b", "x", "y")
        self.fails_for_state("y", GAP, "b", "before", "y")

    def test_states_of_a_machine_without_states(self):
        self.fails_for_state("a", Machine([], [], []), "", "a", "a")

    def test_errors_are_of_the_package(self):
        for call in (lambda: price(GAP, 1), lambda: best(GAP, 1), lambda: between(GAP, "", "x", "x")):
            with self.assertRaises(PaidError):
                call()


class SameValuesTest(unittest.TestCase):
    def test_parameters_by_name(self):
        self.assertEqual(price(row="bab", machine=GAP), 1)
        self.assertEqual(best(row="bb", machine=GAP), ("before", "within", "after"))
        self.assertEqual(between(other="within", state="before", row="ba", machine=GAP), 1)

    def test_equal_arguments_give_equal_values_and_nothing_is_modified(self):
        machine = copy.deepcopy(GAP)
        for _ in range(3):
            self.assertEqual(price(machine, "baab"), 2)
            self.assertEqual(best(machine, "baab"), ("before", "within", "within", "within", "after"))
            self.assertEqual(between(machine, "baab", "within", "after"), 0)
            with self.assertRaises(BadRow):
                price(machine, "B")
        self.assertEqual(machine, GAP)
        self.assertEqual(machine.text(), GAP.text())
        self.assertEqual(machine.states, GAP.states)


if __name__ == "__main__":
    unittest.main()
