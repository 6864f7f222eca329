"""Known machines: their prices in the words of the document, their states and their arrows."""

import itertools
import unittest

from enoughpaid.known import capped, counter, gap, nested
from enoughpaid.machines import Machine
from enoughpaid.prices import best, between, price
from helpers import rows_up_to

ALPHABETS = ["a", "z", "ab", "zq", "xay", "abc", "dbca", "wxyz"]
LONG = ["ab" * 2500, "b" + "a" * 4998 + "b", "aab" * 1666, "a" * 5000, "b" * 5000]


def parts_of(letters):
    """Return all strings of none, some or all of the letters, in their order."""
    return ["".join(part) for many in range(len(letters) + 1) for part in itertools.combinations(letters, many)]


def paid_letters(row, paid):
    """Return how many letters of the row are paid."""
    return len([letter for letter in row if letter in paid])


def shortest_gap(row, first, second):
    """Return the least number of first letters between two second ones, None if there are no two."""
    return min([len(stretch) for stretch in row.split(second)[1:-1]], default=None)


def nested_price(row, letters):
    """Return the price of a row for the nested machine, in the words of point 23."""
    if len(letters) == 1:
        return len(row)
    stretches = row.split(letters[-1])[1:-1]
    return min([row.count(letters[-1])] + [nested_price(stretch, letters[:-1]) for stretch in stretches])


def nested_row(letters, number):
    """Return the row of the expression `(((a)*b)*c)*` for the letters at a number."""
    row = ""
    for letter in letters:
        row = (row + letter) * number
    return row


def length_for(letters):
    """Return up to which length all rows of the letters are few enough for a test."""
    return {1: 8, 2: 8, 3: 6, 4: 5}[len(letters)]


class CounterTest(unittest.TestCase):
    def test_all_short_rows(self):
        for letters in ALPHABETS:
            for paid in parts_of(letters):
                machine = counter(letters, paid)
                for row in rows_up_to(letters, length_for(letters) - 1):
                    self.assertEqual(price(machine, row), paid_letters(row, paid))

    def test_long_rows(self):
        for row in LONG:
            for paid in ("", "a", "b", "ab", "ba"):
                self.assertEqual(price(counter("ab", paid), row), paid_letters(row, paid))

    def test_other_letters(self):
        for row in ("c", "abc", "cab", "acb"):
            self.assertIsNone(price(counter("ab", "a"), row))

    def test_states_and_arrows(self):
        self.assertEqual(
            counter("ba", "b"), Machine([("count", "a", "count", 0), ("count", "b", "count", 1)], ["count"], ["count"])
        )
        for letters in ALPHABETS:
            for paid in parts_of(letters):
                machine = counter(letters, paid)
                self.assertEqual(machine.states, ("count",))
                self.assertEqual(machine.letters, tuple(sorted(letters)))
        self.assertEqual(best(counter("ab", "a"), "aba"), ("count",) * 4)

    def test_the_order_of_the_letters_does_not_matter(self):
        self.assertEqual(counter("abc", "ca"), counter("cba", "ac"))

    def test_parameters_by_name(self):
        self.assertEqual(counter(paid="a", letters="ab"), counter("ab", "a"))


class CappedTest(unittest.TestCase):
    def test_all_short_rows(self):
        for letters in ALPHABETS:
            for paid in parts_of(letters):
                for number in (1, 2, 3, 5, 99):
                    machine = capped(letters, paid, number)
                    for row in rows_up_to(letters, length_for(letters) - 1):
                        self.assertEqual(price(machine, row), min(number, paid_letters(row, paid)))

    def test_long_rows_and_all_numbers(self):
        for number in range(1, 100):
            machine = capped("ab", "a", number)
            for many in (0, 1, number - 1, number, number + 1, 150):
                self.assertEqual(price(machine, "b" + "ab" * many + "bb"), min(number, many))
        for row in LONG:
            for number in (1, 98, 99):
                self.assertEqual(price(capped("ab", "b", number), row), min(number, row.count("b")))

    def test_other_letters(self):
        for row in ("c", "abc", "cab", "acb"):
            for paid in ("", "a", "ab"):
                self.assertIsNone(price(capped("ab", paid, 2), row))

    def test_states(self):
        for letters in ALPHABETS:
            for paid in parts_of(letters):
                for number in (1, 99):
                    machine = capped(letters, paid, number)
                    self.assertLessEqual(len(machine.states), 3)
                    self.assertEqual(machine.letters, tuple(sorted(letters)))

    def test_parameters_by_name(self):
        self.assertEqual(capped(number=7, paid="a", letters="ab"), capped("ab", "a", 7))


class GapTest(unittest.TestCase):
    def test_example_of_the_document(self):
        machine = gap("a", "b")
        self.assertEqual([price(machine, "baabab"), price(machine, "aab"), price(machine, "bb")], [1, None, 0])

    def test_all_short_rows(self):
        for first, second in ("ab", "ba", "zq", "kx"):
            machine = gap(first, second)
            for row in rows_up_to(first + second, 10):
                self.assertEqual(price(machine, row), shortest_gap(row, first, second))

    def test_long_rows(self):
        for row in LONG:
            self.assertEqual(price(gap("a", "b"), row), shortest_gap(row, "a", "b"))
            self.assertEqual(price(gap("b", "a"), row), shortest_gap(row, "b", "a"))
        self.assertEqual(price(gap("a", "b"), LONG[1]), 4998)

    def test_rows_that_are_not_read(self):
        for row in ("", "a", "b", "ab", "aba", "a" * 5000, "c", "bcb", "bbc", "cbb"):
            self.assertIsNone(price(gap("a", "b"), row))
            self.assertIsNone(best(gap("a", "b"), row))

    def test_states_and_arrows(self):
        for first, second in ("ab", "ba", "zq"):
            machine = gap(first, second)
            self.assertEqual(
                machine.arrows,
                tuple(sorted([
                    ("before", first, "before", 0), ("before", second, "before", 0), ("before", second, "within", 0),
                    ("within", first, "within", 1), ("within", second, "after", 0), ("after", first, "after", 0),
                    ("after", second, "after", 0),
                ])),
            )
            self.assertEqual([machine.starts, machine.ends], [("before",), ("after",)])
            self.assertEqual(machine.states, ("after", "before", "within"))
        self.assertEqual(between(gap("a", "b"), "baa", "before", "within"), 2)

    def test_parameters_by_name(self):
        self.assertEqual(gap(second="b", first="a"), gap("a", "b"))


class NestedTest(unittest.TestCase):
    def test_all_short_rows(self):
        for letters in ALPHABETS:
            machine = nested(letters)
            for row in rows_up_to(letters, length_for(letters) + 1):
                self.assertEqual(price(machine, row), nested_price(row, letters))

    def test_the_rows_of_the_expression(self):
        for letters, most in (("a", 50), ("ab", 50), ("abc", 16), ("xdkb", 7)):
            for number in range(1, most + 1):
                row = nested_row(letters, number)
                self.assertEqual(price(nested(letters), row), number)
                self.assertEqual(nested_price(row, letters), number)

    def test_long_rows(self):
        for row in LONG:
            for letters in ("ab", "ba", "cab", "bca", "dabc"):
                self.assertEqual(price(nested(letters), row), nested_price(row, letters))

    def test_the_order_of_the_letters_matters(self):
        self.assertEqual([price(nested("ab"), "aba"), price(nested("ba"), "aba")], [1, 1])
        self.assertEqual([price(nested("ab"), "abaab"), price(nested("ba"), "abaab")], [2, 0])

    def test_other_letters(self):
        for letters in ("a", "ab", "abc", "abcd"):
            for row in ("e", letters + "e", "e" + letters, letters + "e" + letters):
                self.assertIsNone(price(nested(letters), row))

    def test_states(self):
        for letters in ALPHABETS:
            self.assertLessEqual(len(nested(letters).states), 3 * len(letters) - 2)
            self.assertEqual(nested(letters).letters, tuple(sorted(letters)))

    def test_parameters_by_name(self):
        self.assertEqual(nested(letters="ab"), nested("ab"))


class SameValuesTest(unittest.TestCase):
    def test_equal_arguments_give_equal_values(self):
        for call, passed in (
            (counter, ("ab", "b")), (capped, ("ab", "b", 3)), (gap, ("a", "b")), (nested, ("abcd",)),
        ):
            one, other = call(*passed), call(*passed)
            self.assertIsInstance(one, Machine)
            self.assertEqual(one, other)
            self.assertEqual(one, Machine.parse(other.text()))


if __name__ == "__main__":
    unittest.main()
