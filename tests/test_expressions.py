"""Expressions: which strings they are, their rows, their tallies and marks along machines, and their ceilings."""

import copy
import itertools
import random
import unittest
from unittest import mock

import words
from enoughpaid.errors import BadExpression, BadNumber, NotSettled
from enoughpaid.expressions import along, ceiling, letters, row_of, stars, tally_along
from enoughpaid.known import capped, counter, gap, nested
from enoughpaid.machines import Machine
from enoughpaid.prices import between, price
from enoughpaid.tallies import Tally
from helpers import random_machine

NOT_STRINGS = [None, 0, 1, True, False, 1.5, b"a", b"", ("a",), (), ["a"], [], {"a": 1}, {"a"}, object(), mock.ANY]
NOT_COUNTS = [0, -1, -5, True, False, None, 1.0, 2.5, "1", "", b"1", [1], (1,), {}, {1}, object(), mock.ANY]
SIGNS = "a()*"
DEEP = "(" * 50 + "a" + ")*" * 50
LONGEST = "(ab)*" * 40
FLAT = "abcdefghijklmnopqrstuvwxyz" * 7 + "abcdefghijklmnopqr"
LOOP = Machine([("s", "a", "s", 1)], ["s"], ["s"])


def expressions_by_length(length):
    """Return all expressions of the one letter a that have at most this many signs, by the rules of point 11."""
    found = {""}
    parts_of = {0: {""}}
    for size in range(1, length + 1):
        parts_of[size] = set()
        for first in range(1, size + 1):
            parts = {"a"} if first == 1 else {f"({inner})*" for inner in parts_of.get(first - 3, ()) if inner}
            parts_of[size] |= {part + rest for part in parts for rest in parts_of[size - first]}
        found |= parts_of[size]
    return found - {""}


def wrong_place(text, beginnings):
    """Return the place that point 11 and the interface tell for a string that is no expression."""
    for place in range(len(text)):
        if text[:place + 1] not in beginnings:
            return place
    return len(text)


def row_at(text, n):
    """Return the row of an expression at n, by replacing one innermost starred part after the other."""
    while "(" in text:
        end = text.index(")")
        begin = text.rindex("(", 0, end)
        text = text[:begin] + text[begin + 1:end] * n + text[end + 2:]
    return text


class FormTest(unittest.TestCase):
    def fails(self, text, place):
        calls = [
            lambda: stars(text), lambda: letters(text), lambda: row_of(text, 2), lambda: row_of(text, 0),
            lambda: tally_along(LOOP, text), lambda: along(LOOP, text), lambda: ceiling(LOOP, text),
        ]
        for call in calls:
            with self.assertRaises(BadExpression) as caught:
                call()
            self.assertIs(type(caught.exception), BadExpression)
            self.assertEqual(caught.exception.place, place, text)
            self.assertIs(type(caught.exception.place), int)

    def test_all_short_strings(self):
        # Six brackets that are open go on with a letter and two signs for each.
        known = expressions_by_length(19)
        beginnings = {text[:length] for text in known for length in range(7)}
        for length in range(7):
            for signs in itertools.product(SIGNS, repeat=length):
                text = "".join(signs)
                if text in known:
                    self.assertEqual([stars(text), letters(text)], [text.count("("), text.count("a")])
                else:
                    self.fails(text, wrong_place(text, beginnings))

    def test_places_by_hand(self):
        for text, place in [
            ("", 0), ("*", 0), (")", 0), ("(", 1), ("()", 1), ("()*", 1), ("(*", 1), ("a*", 1), ("a)", 1), ("a)*", 1),
            ("(a", 2), ("(a)", 3), ("(a)b", 3), ("(a)(b)*", 3), ("(a))", 3), ("(a)**", 4), ("(a)*)", 4), ("(a)*(", 5),
            ("((a)*", 5), ("(a(b)*", 6), ("(a()*)*", 3), ("ab(c)*d)*", 7), ("(a)*b*", 5), ("((a))*", 4),
        ]:
            self.fails(text, place)

    def test_signs_that_are_no_letters(self):
        for sign in ["A", "Z", "1", " ", "\n", "-", ".", "+", "?", "[", "\u00e4", "\uff41", "\u00df", "`", "{"]:
            self.fails(sign, 0)
            self.fails("ab" + sign, 2)
            self.fails("(a" + sign + ")*", 2)
            self.fails("(a)*" + sign, 4)
            self.fails("(a)" + sign, 3)

    def test_objects_that_are_no_strings(self):
        for value in NOT_STRINGS:
            self.fails(value, 0)

    def test_numbers_of_starred_parts_and_letters(self):
        for text, many, size in [
            ("a", 0, 1), ("zz", 0, 2), ("(a)*", 1, 1), ("a((b)*c)*", 2, 3), ("(a)*(a)*", 2, 2), ("((a)*)*", 2, 1),
            ("(((a)*b)*c)*", 3, 3), (DEEP, 50, 1), (LONGEST, 40, 80), (FLAT, 0, 200),
        ]:
            self.assertEqual([stars(text), letters(text)], [many, size])
            self.assertEqual([stars(text=text), letters(text=text)], [many, size])


class RowTest(unittest.TestCase):
    def test_example_of_the_document(self):
        self.assertEqual(
            [row_of("a((b)*c)*", 2), stars("a((b)*c)*"), letters("a((b)*c)*")], ["abbcbbc", 2, 3]
        )

    def test_held_against_the_words_of_the_document(self):
        for many, size, text in words.expressions_up_to("ab", 3, 3):
            for n in (1, 2, 3, 5):
                self.assertEqual(row_of(text, n), row_at(text, n))

    def test_nested(self):
        self.assertEqual(row_of("(((a)*b)*c)*", 1), "abc")
        self.assertEqual(row_of("(((a)*b)*c)*", 2), "aabaabcaabaabc")
        self.assertEqual(row_of(text="((a)*)*", n=3), "a" * 9)

    def test_long(self):
        self.assertEqual(row_of("(a)*", 100000), "a" * 100000)
        self.assertEqual(row_of("((a)*b)*", 100), ("a" * 100 + "b") * 100)
        self.assertEqual(row_of(DEEP, 1), "a")
        self.assertEqual(row_of(LONGEST, 2), "ab" * 80)
        self.assertEqual(row_of(FLAT, 1000), FLAT)

    def test_objects_that_are_no_counts(self):
        for value in NOT_COUNTS:
            for text in ("a", "(a)*"):
                with self.assertRaises(BadNumber) as caught:
                    row_of(text, value)
                self.assertIs(type(caught.exception), BadNumber)
                self.assertIs(caught.exception.number, value)


class TallyTest(unittest.TestCase):
    def test_held_against_the_words_of_the_document(self):
        chance = random.Random(21)
        settled = 0
        for _ in range(25):
            machine = random_machine(chance, ["p", "q", "r"][:chance.randrange(1, 4)], "ab")
            passed = copy.deepcopy(machine)
            for many, size, text in words.expressions_up_to("abc", 2, 2) + [(0, 3, "aba"), (1, 4, "a(bab)*")]:
                expected = words.tally_of_expression(machine, text)
                if expected is None:
                    with self.assertRaises(NotSettled):
                        tally_along(machine, text)
                else:
                    tally = tally_along(machine, text)
                    self.assertIsInstance(tally, Tally)
                    self.assertEqual(tally.states, machine.states)
                    self.assertEqual(words.marks_of(tally), expected)
                    self.assertEqual(along(machine, text), words.along(expected, machine))
                    settled += many > 0
            self.assertEqual(machine, passed)
        self.assertGreater(settled, 1000)

    def test_letters_that_no_arrow_has(self):
        machine = gap("a", "b")
        for text in ("c", "ac", "(c)*", "(b(c)*)*a"):
            self.assertEqual(tally_along(machine, text).marks, (("never",) * 3,) * 3)
            self.assertEqual(along(machine, text), "never")
            self.assertIsNone(ceiling(machine, text))

    def test_marks_along(self):
        for machine, text, mark in [
            (counter("ab", "a"), "b", "free"), (counter("ab", "a"), "(b)*", "free"), (counter("ab", "a"), "ba", "some"),
            (counter("ab", "a"), "(a)*", "many"), (counter("ab", "a"), "(b)*a(b)*", "some"),
            (counter("ab", "a"), "c", "never"), (gap("a", "b"), "b(a)*b", "many"), (gap("a", "b"), "ba", "never"),
            (gap("a", "b"), "b(a)*bab", "some"), (gap("a", "b"), "b(a)*bb", "free"), (capped("a", "a", 9), "(a)*", "some"),
            (nested("abc"), "(((a)*b(a)*b)*c((a)*b(a)*b)*c)*", "many"), (nested("abc"), "(a)*", "free"),
        ]:
            self.assertEqual(along(machine, text), mark, text)
            self.assertEqual(along(text=text, machine=machine), mark)

    def test_no_starts_ends_or_states(self):
        arrows = [("s", "a", "s", 1)]
        for machine in (Machine(arrows, [], ["s"]), Machine(arrows, ["s"], []), Machine(arrows, [], [])):
            self.assertEqual(along(machine, "a"), "never")
            self.assertEqual(along(machine, "(a)*"), "never")
            self.assertIsNone(ceiling(machine, "a"))
            self.assertEqual(tally_along(machine, "(a)*").at("s", "s"), "many")
        for text in ("a", "((a)*b)*"):
            self.assertEqual(tally_along(Machine([], [], []), text), Tally([], []))
            self.assertEqual(along(Machine([], [], []), text), "never")
        self.assertEqual(along(Machine([], ["s"], ["s"]), "a"), "never")

    def test_long_and_deep(self):
        self.assertEqual(along(counter("ab", ""), LONGEST), "free")
        self.assertEqual(along(capped("ab", "ab", 5), LONGEST), "some")
        self.assertEqual(along(LOOP, DEEP), "many")
        self.assertEqual(along(LOOP, "a" * 200), "some")
        names = [letter + "s" for letter in "abcdefgh"]
        ring = Machine([(names[at], "a", names[(at + 1) % 8], 1 if at == 0 else 0) for at in range(8)], names, names)
        self.assertEqual(along(ring, "(" + "a" * 8 + ")*"), "many")
        self.assertEqual(tally_along(ring, "a" * 197).at("as", "fs"), "some")


class NotSettledTest(unittest.TestCase):
    SWAP = Machine([("p", "a", "q", 0), ("q", "a", "p", 0), ("p", "b", "p", 1), ("q", "b", "q", 0)], ["p"], ["p"])

    def fails(self, machine, text, part):
        for call in (tally_along, along, ceiling):
            with self.assertRaises(NotSettled) as caught:
                call(machine, text)
            self.assertIs(type(caught.exception), NotSettled)
            self.assertEqual(caught.exception.part, part)

    def test_the_part_that_ends_first(self):
        for text, part in [
            ("(a)*", "(a)*"), ("b(a)*b", "(a)*"), ("(ab)*(a)*", "(ab)*"), ("((a)*(ab)*)*", "(a)*"), ("(b(a)*)*", "(a)*"),
            ("(a(b)*)*(a)*", "(a(b)*)*"), ("(b)*(aab(b)*a)*", "(aab(b)*a)*"), ("((b)*a)*(b)*(bab)*", "((b)*a)*"),
            ("(aa)*a(aaa)*", "(aaa)*"),
        ]:
            self.fails(self.SWAP, text, part)

    def test_the_starts_and_ends_do_not_count(self):
        for starts, ends in (([], []), (["p"], []), ([], ["q"])):
            self.fails(Machine(self.SWAP.arrows, starts, ends), "b(a)*", "(a)*")

    def test_what_is_settled_only_behind_itself(self):
        self.assertEqual(along(self.SWAP, "(aa)*"), "free")
        # This leads from each state to itself, and costs something.
        self.assertEqual(along(self.SWAP, "(abab)*"), "many")
        machine = Machine([("p", "a", "q", 0), ("p", "a", "p", 1), ("q", "a", "q", 1)], ["p"], ["q"])
        self.fails(machine, "(a)*", "(a)*")
        self.assertEqual(along(machine, "(aa)*"), "many")
        self.assertEqual(along(machine, "a"), "free")

    def test_wrong_expressions_come_first(self):
        for text, place in [("(a)*)", 4), ("(a)*(", 5), ("(a)*(b", 6), ("(a)*A", 4)]:
            for call in (tally_along, along, ceiling):
                with self.assertRaises(BadExpression) as caught:
                    call(self.SWAP, text)
                self.assertEqual(caught.exception.place, place)


class PricesTest(unittest.TestCase):
    """What point 13 says of prices, for random machines and for expressions that have a tally for them."""

    def test_marks_tell_of_prices(self):
        chance = random.Random(22)
        texts = [text for many, size, text in words.expressions_up_to("ab", 2, 2)] + [
            "(ab)*a", "(ab)*", "((a)*b(a)*b)*", "a(ba)*b", "(aab)*", "((ab)*a)*", "b((a)*b)*",
        ]
        seen = set()
        for _ in range(40):
            machine = random_machine(chance, ["p", "q", "r"][:chance.randrange(1, 4)], "ab")
            for text in texts:
                marks = words.tally_of_expression(machine, text)
                if marks is None:
                    continue
                rows = [row_at(text, n) for n in range(1, 7)]
                for (state, other), mark in marks.items():
                    self.hold(mark, [between(machine, row, state, other) for row in rows], len(machine.states))
                mark = along(machine, text)
                self.hold(mark, [price(machine, row) for row in rows], len(machine.states))
                self.hold_ceiling(machine, text, mark, rows)
                seen.add(mark)
        self.assertEqual(seen, set(words.WORDS))

    def hold(self, mark, prices, count):
        for n, cost in enumerate(prices, start=1):
            self.assertEqual(cost is None, mark == "never")
            if mark == "free":
                self.assertEqual(cost, 0)
            if mark == "some":
                self.assertGreaterEqual(cost, 1)
            if mark == "many":
                self.assertGreaterEqual(cost, n // count)

    def hold_ceiling(self, machine, text, mark, rows):
        found = ceiling(machine, text)
        self.assertEqual(found is not None, mark in ("free", "some"))
        if found is not None:
            self.assertIs(type(found), int)
            self.assertLessEqual(max(price(machine, row) for row in rows), found)

    def test_ceilings(self):
        for machine, text in [
            (capped("ab", "a", 99), "(a)*"), (capped("ab", "a", 7), "(b)*a(ab)*"), (gap("a", "b"), "baaab"),
            (gap("a", "b"), "b(a)*baab(a)*b"), (counter("a", "a"), "a" * 200), (nested("ab"), "(a)*b(a)*b"),
            (nested("abc"), "cb(a)*babc"), (nested("abc"), "((a)*b(a)*b)*cbac"),
        ]:
            self.assertEqual(along(machine, text), "some")
            found = ceiling(machine, text)
            self.assertIs(type(found), int)
            self.assertEqual(ceiling(text=text, machine=machine), found)
            dearest = max(price(machine, row_of(text, n)) for n in range(1, 10) if len(row_of(text, n)) <= 5000)
            self.assertGreaterEqual(found, dearest)
            self.assertGreaterEqual(dearest, 1)

    def test_no_ceilings(self):
        for machine, text in [(counter("ab", "a"), "(a)*"), (gap("a", "b"), "b(a)*b"), (gap("a", "b"), "ab")]:
            self.assertIsNone(ceiling(machine, text))

    def test_ceilings_of_free_expressions(self):
        self.assertGreaterEqual(ceiling(counter("ab", "a"), "(b)*"), 0)
        self.assertGreaterEqual(ceiling(gap("a", "b"), "b(a)*bb"), 0)

    def test_the_way_round_may_be_dearer_than_the_first(self):
        # Once costs 1 straight away; from twice on the way through the middle costs 50 there and 40 onwards.
        arrows = [("p", "a", "q", 1), ("p", "a", "m", 50), ("m", "a", "m", 0), ("m", "a", "q", 40)]
        machine = Machine(arrows, ["p"], ["q"])
        self.assertEqual([price(machine, row_of("(a)*", n)) for n in (1, 2, 9)], [1, 90, 90])
        self.assertGreaterEqual(ceiling(machine, "(a)*"), 90)
        # And the first one may be dearer than the others.
        arrows = [("p", "a", "q", 9), ("p", "a", "m", 1), ("m", "a", "m", 0), ("m", "a", "q", 1)]
        machine = Machine(arrows, ["p"], ["q"])
        self.assertEqual([price(machine, row_of("(a)*", n)) for n in (1, 2, 9)], [9, 2, 2])
        self.assertGreaterEqual(ceiling(machine, "(a)*"), 9)

    def test_many_starred_parts_one_in_the_other(self):
        self.assertGreaterEqual(ceiling(capped("a", "a", 99), DEEP), 99)

    def test_equal_arguments_give_equal_values(self):
        for _ in range(2):
            self.assertEqual(tally_along(gap("a", "b"), "b(a)*b"), tally_along(gap("a", "b"), "b(a)*b"))
            self.assertEqual(ceiling(capped("a", "a", 9), "(a)*"), ceiling(capped("a", "a", 9), "(a)*"))


if __name__ == "__main__":
    unittest.main()
