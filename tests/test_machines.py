"""Machines: arrows, starts, ends, what is wrong with them, and `==`."""

import copy
import itertools
import unittest
from unittest import mock

from enoughpaid.errors import BadArrow, BadState, TooMany
from enoughpaid.machines import Machine
from helpers import NOT_NAMES

NAMES = ["".join(signs) for signs in itertools.product("abcdefgh", repeat=2)]
GO = ("go", "a", "go", 1)
NOT_LETTERS = ["", "ab", "A", "1", " ", "\n", "\u00e4", "\u00df", "\u03b1", "\uff41", 0, None, True, b"a", ["a"], mock.ANY]
NOT_PRICES = [-1, 100, 1000, 10 ** 40, True, False, None, "0", "1", 0.0, 1.0, 1.5, b"1", [1], (1,), mock.ANY]
NOT_ARROWS = [
    None, 0, True, "", "goag", "go a go 1", b"goag", (), [], ("go",), ("go", "a"), ("go", "a", "go"),
    ("go", "a", "go", 1, 1), (GO,), [GO], {"go": 1, "a": 1, "b": 1, "c": 1}, {"go", "a", "b", 1}, object(), mock.ANY,
]


def many_arrows(count):
    """Return different arrows of the states NAMES[:40], as many as are asked for."""
    found = [(state, "a", after, 1) for state in NAMES[:40] for after in NAMES[:40]]
    return found[:count]


def few_state_arrows(count):
    """Return different arrows of three states, as many as are asked for."""
    signs = "abcdefghijklmnopqrstuvwxyz"
    found = [(state, sign, after, 2) for state in "pqrs" for sign in signs for after in "pqrs"]
    return found[:count]


class MachineTest(unittest.TestCase):
    def test_example_of_the_document(self):
        machine = Machine(
            [("go", "a", "go", 1), ("go", "b", "rest", 0), ("go", "a", "go", 5)], ["go"], ["rest", "go"]
        )
        self.assertEqual(
            [machine.arrows, machine.states, machine.letters, machine.ends],
            [(("go", "a", "go", 1), ("go", "b", "rest", 0)), ("go", "rest"), ("a", "b"), ("go", "rest")],
        )
        self.assertEqual(machine.starts, ("go",))

    def test_parts_are_ascending_and_once(self):
        machine = Machine(
            [("q", "b", "p", 3), ("q", "a", "r", 0), ("p", "z", "q", 99), ("q", "a", "p", 10), ("q", "b", "p", 3)],
            ["q", "p", "q"],
            ("r", "p", "r", "p"),
        )
        self.assertEqual(
            machine.arrows, (("p", "z", "q", 99), ("q", "a", "p", 10), ("q", "a", "r", 0), ("q", "b", "p", 3))
        )
        self.assertEqual(machine.starts, ("p", "q"))
        self.assertEqual(machine.ends, ("p", "r"))
        self.assertEqual(machine.states, ("p", "q", "r"))
        self.assertEqual(machine.letters, ("a", "b", "z"))

    def test_each_order_of_the_arrows_gives_the_same(self):
        arrows = [("q", "a", "p", 7), ("q", "a", "p", 2), ("p", "a", "q", 0), ("q", "a", "p", 2), ("q", "b", "p", 1)]
        expected = (("p", "a", "q", 0), ("q", "a", "p", 2), ("q", "b", "p", 1))
        for order in itertools.permutations(arrows):
            self.assertEqual(Machine(order, ["p"], ["q"]).arrows, expected)

    def test_only_the_cheapest_of_arrows_alike_counts(self):
        for prices in itertools.permutations([0, 5, 10, 99]):
            machine = Machine([("p", "a", "q", cost) for cost in prices], [], [])
            self.assertEqual(machine.arrows, (("p", "a", "q", 0),))
        others = [("p", "a", "q", 4), ("p", "b", "q", 3), ("q", "a", "q", 2), ("p", "a", "p", 1)]
        self.assertEqual(Machine(others, [], []).arrows, tuple(sorted(others)))

    def test_names_in_starts_and_ends_alone(self):
        machine = Machine([("m", "a", "n", 0)], ["s", "b"], ["e", "z", "s"])
        self.assertEqual(machine.states, ("b", "e", "m", "n", "s", "z"))
        self.assertEqual(Machine([], ["s"], []).states, ("s",))
        self.assertEqual(Machine([], [], ["e"]).states, ("e",))

    def test_nothing_at_all(self):
        for empty in ([], ()):
            machine = Machine(empty, empty, empty)
            self.assertEqual(
                [machine.arrows, machine.starts, machine.ends, machine.states, machine.letters], [(), (), (), (), ()]
            )

    def test_lists_and_tuples_alike(self):
        machine = Machine([["p", "a", "q", 1], ("q", "b", "p", 2)], ("p",), ["q"])
        self.assertEqual(machine, Machine((("p", "a", "q", 1), ["q", "b", "p", 2]), ["p"], ("q",)))
        self.assertEqual(machine.arrows, (("p", "a", "q", 1), ("q", "b", "p", 2)))
        for part in (machine.arrows, machine.starts, machine.ends, machine.states, machine.letters):
            self.assertIs(type(part), tuple)
        for arrow in machine.arrows:
            self.assertIs(type(arrow), tuple)

    def test_what_is_passed_is_copied_and_not_modified(self):
        arrows, starts, ends = [["q", "b", "p", 2], ["p", "a", "q", 1], ["p", "a", "q", 9]], ["q", "p"], ["q", "q"]
        before = copy.deepcopy([arrows, starts, ends])
        machine = Machine(arrows, starts, ends)
        same = Machine(*before)
        self.assertEqual([arrows, starts, ends], before)
        arrows[0][3] = 50
        arrows[1][0] = "other"
        arrows.append(("x", "y", "z", 1))
        starts.clear()
        ends[0] = "other"
        self.assertEqual(machine, same)
        self.assertEqual(machine.text(), same.text())
        self.assertEqual(machine.states, ("p", "q"))

    def test_properties_cannot_be_assigned(self):
        machine = Machine([GO], ["go"], ["go"])
        for name in ("arrows", "starts", "ends", "states", "letters"):
            with self.assertRaises(AttributeError):
                setattr(machine, name, ())
        self.assertEqual(machine, Machine([GO], ["go"], ["go"]))

    def test_parameters_by_name(self):
        self.assertEqual(Machine(ends=["e"], starts=["s"], arrows=[GO]), Machine([GO], ["s"], ["e"]))

    def test_names_letters_and_prices_at_the_edges(self):
        machine = Machine([("a", "z", "abcdefgh", 99), ("zzzzzzzz", "a", "z", 0)], ["a"], ["zzzzzzzz"])
        self.assertEqual(machine.arrows, (("a", "z", "abcdefgh", 99), ("zzzzzzzz", "a", "z", 0)))


class EqualityTest(unittest.TestCase):
    def setUp(self):
        self.machine = Machine([("p", "a", "q", 1)], ["p"], ["q"])

    def test_equal(self):
        for other in (
            Machine([("p", "a", "q", 1)], ["p"], ["q"]),
            Machine([["p", "a", "q", 3], ["p", "a", "q", 1]], ("p", "p"), ("q",)),
            self.machine,
        ):
            self.assertTrue(self.machine == other)
            self.assertFalse(self.machine != other)

    def test_not_equal(self):
        for other in (
            Machine([("p", "a", "q", 2)], ["p"], ["q"]),
            Machine([("p", "b", "q", 1)], ["p"], ["q"]),
            Machine([("p", "a", "p", 1)], ["p"], ["q"]),
            Machine([], ["p"], ["q"]),
            Machine([("p", "a", "q", 1), ("q", "a", "q", 1)], ["p"], ["q"]),
            Machine([("p", "a", "q", 1)], ["q"], ["q"]),
            Machine([("p", "a", "q", 1)], ["p"], ["p"]),
            Machine([("p", "a", "q", 1)], [], ["q"]),
            Machine([("p", "a", "q", 1)], ["p"], []),
        ):
            self.assertFalse(self.machine == other)
            self.assertTrue(self.machine != other)

    def test_other_values(self):
        machine = self.machine
        for other in (
            None, 0, True, "", machine.text(), machine.arrows, [], (machine.arrows, machine.starts, machine.ends),
            {}, object(), Machine, [machine],
        ):
            self.assertIs(machine == other, False)
            self.assertIs(machine != other, True)
            self.assertIs(other == machine, False)
            self.assertIs(other != machine, True)


class WrongMachineTest(unittest.TestCase):
    def fails_at(self, line, arrows, starts=(), ends=()):
        with self.assertRaises(BadArrow) as caught:
            Machine(arrows, starts, ends)
        self.assertIs(type(caught.exception), BadArrow)
        self.assertEqual(caught.exception.line, line)

    def fails_for(self, state, arrows, starts, ends):
        with self.assertRaises(BadState) as caught:
            Machine(arrows, starts, ends)
        self.assertIs(type(caught.exception), BadState)
        self.assertIs(caught.exception.state, state)

    def fails_with(self, count, arrows, starts, ends):
        with self.assertRaises(TooMany) as caught:
            Machine(arrows, starts, ends)
        self.assertIs(type(caught.exception), TooMany)
        self.assertEqual(caught.exception.count, count)

    def test_wrong_arrows(self):
        wrong = list(NOT_ARROWS)
        wrong += [(name, "a", "go", 1) for name in NOT_NAMES]
        wrong += [("go", "a", name, 1) for name in NOT_NAMES]
        wrong += [("go", letter, "go", 1) for letter in NOT_LETTERS]
        wrong += [("go", "a", "go", cost) for cost in NOT_PRICES]
        for arrow in wrong:
            self.fails_at(1, [arrow])
            self.fails_at(3, [GO, GO, arrow, GO, arrow])
            if isinstance(arrow, tuple):
                self.fails_at(2, (GO, list(arrow)))

    def test_a_dearer_arrow_is_checked_too(self):
        self.fails_at(2, [("go", "a", "go", 0), ("go", "a", "go", 100)])

    def test_400_and_401_arrows(self):
        self.assertEqual(len(Machine(many_arrows(400), [], []).arrows), 400)
        self.assertEqual(len(Machine(few_state_arrows(400), [], []).arrows), 400)
        self.fails_at(401, many_arrows(401))
        self.fails_at(401, many_arrows(500))
        self.fails_at(401, few_state_arrows(401))

    def test_401_arrows_alike(self):
        self.assertEqual(Machine([GO] * 400, [], []).arrows, (GO,))
        self.fails_at(401, [GO] * 401)

    def test_wrong_arrow_before_behind_and_as_the_401st(self):
        arrows = many_arrows(402)
        for place, line in ((0, 1), (398, 399), (399, 400), (400, 401), (401, 401)):
            self.fails_at(line, arrows[:place] + ["wrong"] + arrows[place + 1:])

    def test_wrong_starts_and_ends(self):
        for state in NOT_NAMES:
            self.fails_for(state, [], [state], [])
            self.fails_for(state, [], [], [state])
            self.fails_for(state, [GO], ["go", state, 5], [])
            self.fails_for(state, [GO], ("go",), ("go", "s", state, "A"))

    def test_starts_are_checked_before_ends(self):
        self.fails_for("B", [], ["B"], ["A"])
        self.fails_for("A", [], ["b"], ["a", "A", "C"])

    def test_arrows_are_checked_before_starts(self):
        self.fails_at(1, [5], ["A"], ["B"])
        self.fails_at(401, many_arrows(401), ["A"], NAMES[:41])

    def test_40_and_41_states(self):
        ring = [(state, "a", after, 0) for state, after in zip(NAMES[:40], NAMES[1:40] + NAMES[:1])]
        self.assertEqual(Machine(ring, [], []).states, tuple(NAMES[:40]))
        self.assertEqual(len(Machine([], NAMES[:40], NAMES[:40]).states), 40)
        self.assertEqual(len(Machine([GO], NAMES[:20], NAMES[20:39]).states), 40)
        self.fails_with(41, [], NAMES[:41], [])
        self.fails_with(41, [], [], NAMES[:41])
        self.fails_with(41, ring, NAMES[39:41], [])
        self.fails_with(41, ring, [], NAMES[40:41])
        self.fails_with(41, ring + [("aa", "b", "zz", 1)], [], [])
        self.fails_with(41, ring + [("zz", "b", "aa", 1)], [], [])
        self.fails_with(64, [], NAMES[:32], NAMES[32:])

    def test_states_are_counted_once(self):
        self.assertEqual(len(Machine([], NAMES[:40] * 2, NAMES[:40] * 3).states), 40)

    def test_names_are_checked_before_the_number_of_states(self):
        self.fails_for("A", [], NAMES[:41], ["A"])
        self.fails_for("A", [], NAMES[:41] + ["A"], [])


if __name__ == "__main__":
    unittest.main()
