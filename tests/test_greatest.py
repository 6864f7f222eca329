"""Greatest prices, and the shortest rows that cost more than a number."""

import copy
import random
import unittest
from unittest import mock

from enoughpaid.building import behind, either, summed, within
from enoughpaid.closures import bounded
from enoughpaid.errors import BadNumber
from enoughpaid.greatest import above, greatest
from enoughpaid.known import capped, counter, gap, nested
from enoughpaid.machines import Machine
from enoughpaid.prices import price
from helpers import random_machine, rows_up_to

NOT_NUMBERS = [
    -2, 1001, -1000, 10 ** 30, True, False, None, 1.0, 0.5, -1.0, "1", "", b"1", [1], (1,), [], {}, {1}, object(),
    mock.ANY,
]
LOOP = [("s", "a", "s", 1)]
READ_NOTHING = [
    Machine([], [], []), Machine([], ["s"], ["e"]), Machine(LOOP, [], ["s"]), Machine(LOOP, ["s"], []),
    Machine(LOOP, [], []), Machine([("s", "a", "s", 1), ("t", "b", "t", 1)], ["s"], ["t"]),
]


def prices_behind(machine, prices, letter, most):
    """Return the prices at all states behind one more letter, where those above the most count alike."""
    found = {}
    for state, sign, after, cost in machine.arrows:
        if sign == letter and state in prices:
            found[after] = min(prices[state] + cost, most, found.get(after, most))
    return found


def first_above(machine, number, many):
    """Return the first row that costs more than a number, by following all prices; the second value is True then.

    It is False if there are too many prices to follow.
    """
    layer = [("", {state: 0 for state in machine.starts})]
    seen = set()
    while layer:
        longer = []
        for row, prices in layer:
            cost = min([prices[end] for end in machine.ends if end in prices], default=-1)
            if cost > number:
                return row, True
            for letter in machine.letters:
                after = prices_behind(machine, prices, letter, max(number + 1, 0))
                if tuple(sorted(after.items())) not in seen:
                    seen.add(tuple(sorted(after.items())))
                    longer.append((row + letter, after))
            if len(seen) > many:
                return None, False
        layer = longer
    return None, True


class AboveTest(unittest.TestCase):
    def test_example_of_the_document(self):
        self.assertEqual(
            [above(counter("ab", "b"), 2), greatest(counter("ab", "b")), greatest(capped("ab", "b", 2))],
            ["bbb", None, (2, "bb")],
        )

    def test_held_against_all_short_rows(self):
        chance = random.Random(51)
        rows = rows_up_to("ab", 7)
        found_rows = 0
        for _ in range(120):
            machine = random_machine(chance, ["p", "q", "r"][:chance.randrange(1, 4)], "ab")
            passed = copy.deepcopy(machine)
            prices = [price(machine, row) for row in rows]
            for number in (-1, 0, 1, 3, 50, 98, 99, 1000):
                expected = [row for row, cost in zip(rows, prices) if cost is not None and cost > number]
                found = above(machine, number)
                if expected:
                    self.assertEqual(found, expected[0])
                    found_rows += 1
                elif found is not None:
                    self.assertGreater(len(found), 7)
                    self.assertGreater(price(machine, found), number)
            self.assertEqual(machine, passed)
        self.assertGreater(found_rows, 100)

    def test_held_against_following_all_prices(self):
        chance = random.Random(52)
        lengths = set()
        for _ in range(150):
            names = ["p", "q", "r", "s", "t"][:chance.randrange(2, 6)]
            machine = random_machine(chance, names, chance.choice(["a", "ab", "abc"]))
            for number in (-1, 0, 2, 7, 20):
                row, is_known = first_above(machine, number, 1500)
                if is_known:
                    self.assertEqual(above(machine, number), row)
                    lengths.add(None if row is None else len(row))
        self.assertIn(None, lengths)
        self.assertGreater(len(lengths), 15)

    def test_known_machines(self):
        for number in (-1, 0, 1, 2, 5, 9):
            longer = number + 1
            self.assertEqual(above(counter("ab", "a"), number), "a" * longer)
            self.assertEqual(above(counter("ab", "ab"), number), "a" * longer)
            self.assertEqual(above(counter("ba", "b"), number), "b" * longer)
            self.assertEqual(above(gap("a", "b"), number), "b" + "a" * longer + "b")
            self.assertEqual(above(nested("ab"), number), ("b" + "a" * longer) * number + "b" if number > 0 else "b" * longer)
            sides = either(counter("ab", "a"), counter("ab", "b"))
            self.assertEqual(above(sides, number), "a" * longer + "b" * longer)
            self.assertEqual(above(machine=counter("ab", "b"), number=number), "b" * longer)

    def test_none_above(self):
        for number in (2, 3, 98, 1000):
            self.assertIsNone(above(capped("ab", "b", 2), number))
            self.assertIsNone(above(counter("ab", ""), number))
        self.assertEqual(above(capped("ab", "b", 2), 1), "bb")
        self.assertEqual(above(counter("ab", ""), -1), "")
        self.assertIsNone(above(counter("ab", ""), 0))

    def test_none_are_read(self):
        for machine in READ_NOTHING:
            for number in (-1, 0, 1, 1000):
                self.assertIsNone(above(machine, number))

    def test_without_arrows(self):
        machine = Machine([], ["s"], ["s"])
        self.assertEqual(above(machine, -1), "")
        self.assertIsNone(above(machine, 0))

    def test_the_greatest_number(self):
        self.assertEqual(above(counter("a", "a"), 1000), "a" * 1001)
        self.assertEqual(above(gap("a", "b"), 1000), "b" + "a" * 1001 + "b")
        self.assertEqual(above(Machine([("s", "a", "s", 99)], ["s"], ["s"]), 1000), "a" * 11)
        self.assertEqual(above(Machine([("s", "a", "s", 99)], ["s"], ["s"]), 989), "a" * 10)
        self.assertEqual(above(Machine([("s", "a", "s", 99)], ["s"], ["s"]), 990), "a" * 11)

    def test_rows_of_more_than_5000_letters(self):
        row = above(nested("ab"), 75)
        self.assertEqual(row, ("b" + "a" * 76) * 75 + "b")
        self.assertGreater(len(row), 5000)
        names = ["".join([first, second]) for first in "abcdefgh" for second in "abcde"]
        arrows = [(state, "a", after, 0) for state, after in zip(names, names[1:])] + [(names[-1], "a", names[0], 1)]
        self.assertEqual(above(Machine(arrows, names[:1], names[:1]), 200), "a" * 40 * 201)

    def test_the_first_in_the_alphabet_of_the_shortest(self):
        arrows = [("s", "z", "t", 5), ("s", "b", "u", 5), ("t", "a", "t", 0), ("u", "a", "u", 1)]
        machine = Machine(arrows, ["s"], ["t", "u"])
        self.assertEqual(above(machine, 4), "b")
        self.assertEqual(above(machine, 5), "ba")
        arrows = [("s", "a", "s", 0), ("s", "b", "t", 1), ("t", "a", "u", 1), ("t", "b", "u", 1), ("s", "c", "v", 2)]
        machine = Machine(arrows, ["s"], ["t", "u", "v"])
        self.assertEqual(above(machine, 0), "b")
        self.assertEqual(above(machine, 1), "c")
        self.assertEqual(above(Machine(arrows, ["s"], ["t", "u"]), 1), "ba")

    def test_cheaper_ways_count(self):
        # The dear loop is taken only ahead of a letter that the state without price does not read.
        arrows = [("p", "a", "p", 9), ("p", "a", "q", 0), ("q", "a", "q", 0), ("p", "b", "p", 1)]
        machine = Machine(arrows, ["p"], ["p", "q"])
        self.assertEqual([price(machine, row) for row in ("aa", "b", "ab", "ba", "aab")], [0, 1, 10, 1, 19])
        self.assertEqual([above(machine, number) for number in (0, 1, 8, 9, 10, 18)], ["b", "ab", "ab", "ab", "aab", "aab"])

    def test_objects_that_are_no_numbers(self):
        for value in NOT_NUMBERS:
            for machine in (counter("a", "a"), Machine([], [], [])):
                with self.assertRaises(BadNumber) as caught:
                    above(machine, value)
                self.assertIs(type(caught.exception), BadNumber)
                self.assertIs(caught.exception.number, value)


class GreatestTest(unittest.TestCase):
    def test_known_machines(self):
        for number in (1, 2, 3, 17, 50, 99):
            self.assertEqual(greatest(capped("ab", "a", number)), (number, "a" * number))
            self.assertEqual(greatest(capped("ba", "ab", number)), (number, "a" * number))
        for machine, expected in [
            (counter("ab", ""), (0, "")), (capped("ab", "", 5), (0, "")), (within(capped("ab", "a", 4), gap("a", "b")), (4, "aaaabb")),
            (summed(capped("ab", "a", 2), capped("ab", "b", 3)), (5, "aabbb")),
            (either(capped("ab", "a", 9), capped("ab", "b", 4)), (4, "aaaabbbb")),
            (behind(capped("ab", "a", 2), capped("ab", "b", 3)), (2, "aabb")),
            (Machine([("s", "a", "t", 99), ("t", "b", "u", 99)], ["s"], ["u", "t"]), (198, "ab")),
            (Machine([("s", "a", "t", 99), ("t", "b", "u", 0)], ["s"], ["u", "t"]), (99, "a")),
            (Machine([("s", "z", "t", 7), ("s", "y", "t", 7), ("s", "a", "t", 6)], ["s"], ["t"]), (7, "y")),
        ]:
            passed = copy.deepcopy(machine)
            told = greatest(machine)
            self.assertIs(type(told), tuple)
            self.assertEqual(told, expected)
            self.assertEqual(greatest(machine=machine), expected)
            self.assertEqual(machine, passed)

    def test_machines_without_bounds(self):
        for machine in [counter("a", "a"), gap("a", "b"), nested("ab"), nested("abc"), counter("xyz", "y")]:
            self.assertIsNone(greatest(machine))

    def test_no_row_is_read(self):
        for machine in READ_NOTHING:
            self.assertEqual(greatest(machine), (None, None))

    def test_without_arrows(self):
        self.assertEqual(greatest(Machine([], ["s"], ["s"])), (0, ""))

    def test_long_ways_to_the_greatest_price(self):
        names = [letter + "s" for letter in "abcdefgh"]
        arrows = [(state, "a", after, 99) for state, after in zip(names, names[1:])]
        machine = Machine(arrows, names[:1], names[-1:])
        self.assertEqual(greatest(machine), (693, "a" * 7))
        machine = Machine([*arrows, (names[0], "a", names[0], 0)], names[:1], names)
        self.assertEqual(greatest(machine), (0, ""))

    def test_held_against_following_all_prices(self):
        chance = random.Random(53)
        seen = set()
        for _ in range(300):
            names = ["p", "q", "r", "s"][:chance.randrange(1, 5)]
            machine = random_machine(chance, names, chance.choice(["a", "ab", "abc"]))
            told = greatest(machine)
            self.assertEqual(told is None, not bounded(machine))
            if told is None:
                continue
            cost, row = told
            seen.add(cost)
            if cost is None:
                self.assertEqual((row, first_above(machine, -1, 5000)), (None, (None, True)))
                continue
            self.assertEqual(price(machine, row), cost)
            for number, expected in ((cost - 1, row), (cost, None)):
                first, is_known = first_above(machine, number, 3000)
                if is_known:
                    self.assertEqual(first, expected)
        self.assertLessEqual({None, 0, 1, 2, 99}, seen)

    def test_bounds_hold_for_all_short_rows(self):
        chance = random.Random(54)
        rows = rows_up_to("ab", 7)
        for _ in range(80):
            machine = random_machine(chance, ["p", "q", "r"][:chance.randrange(1, 4)], "ab")
            told = greatest(machine)
            if told is not None and told[0] is not None:
                prices = [price(machine, row) for row in rows]
                dearest = max([cost for cost in prices if cost is not None], default=0)
                self.assertLessEqual(dearest, told[0])
                if len(told[1]) <= 7:
                    self.assertEqual(rows[prices.index(told[0])], told[1])


if __name__ == "__main__":
    unittest.main()
