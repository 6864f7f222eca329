"""Meters: what they read and take back, and the prices and best runs that they tell."""

import copy
import random
import unittest
from unittest import mock

from enoughpaid.errors import BadNumber, BadRow
from enoughpaid.known import capped, counter, gap, nested
from enoughpaid.machines import Machine
from enoughpaid.meters import Meter
from enoughpaid.prices import best, between, price
from helpers import NOT_ROWS, random_machine

LOOP = [("s", "a", "s", 1)]
SMALL = [
    Machine([], [], []), Machine([], ["s"], ["e"]), Machine([], ["s"], ["s"]), Machine(LOOP, [], ["s"]),
    Machine(LOOP, ["s"], []), Machine(LOOP, [], []),
]
NOT_COUNTS = [-1, -2, 10 ** 30, True, False, None, 1.0, 0.0, "1", "", b"", [1], [], (), {}, {1}, object(), mock.ANY]


class MeterTest(unittest.TestCase):
    def shows(self, meter, machine, row):
        """Compare all that a meter tells with what the functions for prices tell of the row."""
        self.assertEqual(meter.so_far, row)
        self.assertEqual(meter.price, price(machine, row))
        self.assertEqual(meter.best(), best(machine, row))
        expected = {}
        for state in machine.states:
            costs = [between(machine, row, start, state) for start in machine.starts]
            expected[state] = min([cost for cost in costs if cost is not None], default=None)
        self.assertEqual(meter.prices, expected)
        self.assertEqual(list(meter.prices), sorted(machine.states))
        self.assertIs(type(meter.prices), dict)
        self.assertEqual(meter.machine, machine)

    def test_example_of_the_document(self):
        meter = Meter(gap("a", "b"))
        meter.read("baab")
        first = meter.price
        meter.undo(2)
        self.assertEqual(
            [first, meter.so_far, meter.price, meter.prices],
            [2, "ba", None, {"after": None, "before": 0, "within": 1}],
        )

    def test_a_new_meter_has_read_nothing(self):
        for machine in SMALL + [gap("a", "b"), counter("a", "a"), capped("ab", "b", 3)]:
            self.shows(Meter(machine), machine, "")
            self.shows(Meter(machine=machine), machine, "")

    def test_held_against_prices_of_rows(self):
        chance = random.Random(81)
        for _ in range(60):
            machine = random_machine(chance, ["p", "q", "r"][:chance.randrange(1, 4)], "ab")
            passed = copy.deepcopy(machine)
            meter, row = Meter(machine), ""
            for _ in range(25):
                if chance.randrange(3):
                    more = "".join([chance.choice("ababc"[:chance.choice([4, 4, 5])]) for _ in range(chance.randrange(4))])
                    self.assertIsNone(meter.read(more))
                    row += more
                else:
                    count = chance.randrange(len(row) + 1)
                    self.assertIsNone(meter.undo(count))
                    row = row[:len(row) - count]
                self.shows(meter, machine, row)
            self.assertEqual(machine, passed)

    def test_small_machines(self):
        for machine in SMALL:
            meter = Meter(machine)
            for row in ("a", "b", "", "ab"):
                meter.read(row)
            self.shows(meter, machine, "abab")
            meter.undo(3)
            self.shows(meter, machine, "a")

    def test_letter_by_letter_and_at_once(self):
        machine = nested("abc")
        one, other = Meter(machine), Meter(machine)
        row = "cabacbabbcaab"
        for letter in row:
            one.read(letter)
        other.read(row)
        self.assertEqual([one.so_far, one.price, one.prices, one.best()], [other.so_far, other.price, other.prices, other.best()])
        self.shows(one, machine, row)

    def test_letters_that_no_arrow_has(self):
        machine = counter("ab", "a")
        meter = Meter(machine)
        meter.read("aazb")
        self.assertEqual([meter.price, meter.best(), meter.prices], [None, None, {"count": None}])
        meter.undo(2)
        self.shows(meter, machine, "aa")

    def test_undo_takes_back_one_letter_unless_told_otherwise(self):
        machine = gap("a", "b")
        meter = Meter(machine)
        meter.read("bab")
        meter.undo()
        self.shows(meter, machine, "ba")
        meter.undo(count=1)
        self.shows(meter, machine, "b")
        meter.undo(0)
        self.shows(meter, machine, "b")
        meter.read(row="ab")
        self.shows(meter, machine, "bab")
        meter.undo(3)
        self.shows(meter, machine, "")

    def test_two_meters_of_one_machine(self):
        machine = counter("ab", "a")
        one, other = Meter(machine), Meter(machine)
        one.read("aab")
        self.shows(other, machine, "")
        other.read("b")
        one.undo(1)
        self.shows(one, machine, "aa")
        self.shows(other, machine, "b")
        self.assertIs(one == other, False)
        self.assertIs(one != other, True)
        self.assertIs(one == one, True)
        for value in (None, 0, "aa", {}, machine):
            self.assertIs(one == value, False)
            self.assertIs(one != value, True)

    def test_what_is_told_is_new(self):
        machine = gap("a", "b")
        meter = Meter(machine)
        meter.read("ba")
        told = meter.prices
        told["before"] = 99
        told.clear()
        self.shows(meter, machine, "ba")
        meter.read("b")
        self.assertEqual(told, {})

    def test_properties_are_read_only(self):
        meter = Meter(gap("a", "b"))
        for name in ("machine", "so_far", "price", "prices"):
            with self.assertRaises(AttributeError):
                setattr(meter, name, None)

    def test_objects_that_are_no_rows(self):
        machine = gap("a", "b")
        meter = Meter(machine)
        meter.read("bab")
        for row in NOT_ROWS:
            with self.assertRaises(BadRow) as caught:
                meter.read(row)
            self.assertIs(type(caught.exception), BadRow)
            self.assertIs(caught.exception.row, row)
            self.assertEqual([meter.so_far, meter.price], ["bab", 1])
        self.shows(meter, machine, "bab")

    def test_5000_letters_at_most(self):
        machine = counter("ab", "b")
        meter = Meter(machine)
        meter.read("ab" * 2500)
        self.assertEqual([meter.price, len(meter.so_far), len(meter.best())], [2500, 5000, 5001])
        meter.read("")
        for row in ("a", "ab", "b" * 5000, "a" * 5001):
            with self.assertRaises(BadRow) as caught:
                meter.read(row)
            self.assertIs(caught.exception.row, row)
            self.assertEqual([meter.price, meter.so_far], [2500, "ab" * 2500])
        meter.undo(2)
        row = "bbb"
        with self.assertRaises(BadRow) as caught:
            meter.read(row)
        self.assertIs(caught.exception.row, row)
        meter.read("bb")
        self.assertEqual([meter.price, meter.so_far], [2501, "ab" * 2499 + "bb"])
        meter.undo(5000)
        self.shows(meter, machine, "")
        with self.assertRaises(BadRow):
            meter.read("a" * 5001)
        meter.read("a" * 5000)
        self.assertEqual(meter.price, 0)

    def test_objects_that_are_no_counts(self):
        machine = gap("a", "b")
        meter = Meter(machine)
        for row in ("", "bab"):
            meter.read(row)
            for count in NOT_COUNTS + [len(row) + 1]:
                with self.assertRaises(BadNumber) as caught:
                    meter.undo(count)
                self.assertIs(type(caught.exception), BadNumber)
                self.assertIs(caught.exception.number, count)
                self.shows(meter, machine, row)
        with self.assertRaises(BadNumber) as caught:
            Meter(machine).undo()
        self.assertEqual(caught.exception.number, 1)


if __name__ == "__main__":
    unittest.main()
