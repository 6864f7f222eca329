"""Two machines: whether one is under another, what parts them, and papers for pairs."""

import copy
import itertools
import random
import unittest

import words
from enoughpaid.building import either, summed, turned, within
from enoughpaid.closures import bounded, growing
from enoughpaid.expressions import along, ceiling, row_of
from enoughpaid.known import capped, counter, gap, nested
from enoughpaid.machines import Machine
from enoughpaid.pairs import alike, apart, is_pair_paper, pair_paper, under
from enoughpaid.prices import price
from enoughpaid.tallies import Tally, tally_of
from helpers import random_machine

MOST = 25
LOOP = [("s", "a", "s", 1)]
READ_NOTHING = [
    Machine([], [], []), Machine([], ["s"], ["e"]), Machine(LOOP, [], ["s"]), Machine(LOOP, ["s"], []),
    Machine(LOOP, [], []),
]
EMPTY_ROW = Machine([], ["s"], ["s"])
ABOVE = ("many", "never")
BELOW = ("free", "some")
# One machine, another one, and what parts the one from the other.
KNOWN = [
    (counter("a", "a"), counter("a", "a"), None), (counter("a", ""), counter("a", "a"), None),
    (counter("a", "a"), counter("a", ""), "(a)*"), (counter("ab", "a"), counter("ab", "b"), "(a)*"),
    (counter("ab", "ab"), counter("ab", "b"), "(a)*"), (counter("ab", "a"), counter("ab", "ab"), None),
    (counter("ab", "ab"), counter("ba", "ba"), None), (counter("a", "a"), counter("ab", ""), "b"),
    (counter("ab", "b"), counter("a", "a"), None), (counter("a", "a"), counter("b", "b"), "b"),
    (capped("ab", "a", 3), counter("ab", "b"), None), (counter("ab", "a"), capped("ab", "b", 9), "(a)*"),
    (gap("a", "b"), counter("ab", "a"), ""), (counter("ab", "a"), gap("a", "b"), "(a)*bb"),
    (gap("a", "b"), within(counter("ab", "a"), gap("a", "b")), None), (nested("ab"), counter("ab", "a"), None),
    (nested("ab"), counter("ab", "b"), None), (counter("ab", "b"), nested("ab"), "(bb)*"),
    (either(counter("ab", "a"), counter("ab", "b")), summed(counter("ab", "a"), counter("ab", "b")), None),
    (summed(counter("ab", "a"), counter("ab", "b")), either(counter("ab", "a"), counter("ab", "b")), "(a)*"),
    (turned(gap("a", "b")), gap("a", "b"), None), (nested("abc"), nested("ab"), None), (EMPTY_ROW, EMPTY_ROW, None),
    (nested("ab"), nested("abc"), "c"), (EMPTY_ROW, counter("a", "a"), "a"), (counter("a", "a"), EMPTY_ROW, None),
    (Machine(LOOP, [], []), EMPTY_ROW, ""), (gap("a", "b"), counter("ab", "ab"), ""),
]


def marks_of_pair(pair):
    """Return what tells a pair of tallies from others."""
    return (pair[0].marks, pair[1].marks)


def reads_more_without_letters(one, other):
    """Tell whether the other machine reads the row without letters and the one does not."""
    return bool(set(other.starts) & set(other.ends)) and not set(one.starts) & set(one.ends)


def is_parting(one, other, pair):
    """Tell whether a pair of tallies is free or some along the other machine, and many or never along the one."""
    marks = [tally.between(machine.starts, machine.ends) for machine, tally in zip((one, other), pair)]
    return marks[1] in BELOW and marks[0] in ABOVE


def shows_under(one, other, pairs):
    """Tell whether a list of pairs of tallies is a paper for one machine under another one, as in point 17."""
    if any((pair[0].states, pair[1].states) != (one.states, other.states) for pair in pairs):
        return False
    held = {marks_of_pair(pair) for pair in pairs}
    letters = [(tally_of(one, letter), tally_of(other, letter)) for letter in {*one.letters, *other.letters}]
    repeats = [
        (pair[0].repeated(), pair[1].repeated()) for pair in pairs if pair[0].is_settled() and pair[1].is_settled()
    ]
    longer = [
        (pair[0].then(more[0]), pair[1].then(more[1])) for pair in pairs for more in letters + repeats
    ]
    return (
        all(marks_of_pair(pair) in held for pair in letters + repeats + longer)
        and not any(is_parting(one, other, pair) for pair in pairs)
        and not reads_more_without_letters(one, other)
    )


class KnownPairsTest(unittest.TestCase):
    def test_known_pairs(self):
        for one, other, text in KNOWN:
            passed = copy.deepcopy([one, other])
            self.assertEqual(apart(one, other), text)
            self.assertIs(under(one, other), text is None)
            told = pair_paper(one, other)
            self.assertEqual(told is None, text is not None)
            if told is not None:
                self.assertIs(is_pair_paper(one, other, told), True)
            self.assertEqual([one, other], passed)

    def test_alike(self):
        for one, other, text in KNOWN:
            expected = apart(one, other) is None and apart(other, one) is None
            self.assertIs(alike(one, other), expected)
            self.assertIs(alike(other, one), expected)
        self.assertIs(alike(counter("ab", "ab"), summed(counter("ab", "a"), counter("ab", "b"))), True)
        self.assertIs(alike(capped("ab", "a", 1), capped("ab", "b", 99)), True)
        self.assertIs(alike(counter("a", "a"), counter("a", "")), False)
        self.assertIs(alike(gap("a", "b"), turned(gap("a", "b"))), True)
        self.assertIs(alike(Machine([], [], []), Machine(LOOP, [], ["s"])), True)

    def test_machines_that_read_nothing(self):
        for one, other in itertools.product(READ_NOTHING, repeat=2):
            self.assertIs(under(one, other), True)
            self.assertIsNone(apart(one, other))
            self.assertTrue(shows_under(one, other, pair_paper(one, other)))
            self.assertIs(alike(one, other), True)
        for one in READ_NOTHING:
            for other in (counter("a", "a"), EMPTY_ROW, capped("ab", "b", 2)):
                self.assertEqual(apart(one, other), "")
                self.assertIsNone(pair_paper(one, other))
                self.assertIsNone(apart(other, one))
                self.assertTrue(shows_under(other, one, pair_paper(other, one)))
            self.assertEqual(apart(one, gap("a", "b")), "bb")
            self.assertIs(under(gap("a", "b"), one), True)

    def test_the_row_without_letters_comes_first(self):
        one = Machine([("s", "a", "t", 0)], ["s"], ["t"])
        other = Machine([("s", "b", "t", 0)], ["s"], ["s", "t"])
        self.assertEqual(apart(one, other), "")
        self.assertEqual(apart(other, one), "a")
        self.assertIs(under(one, other), False)
        self.assertIs(is_pair_paper(one, other, []), False)
        # Nothing else parts them.
        other = Machine([("s", "a", "t", 0)], ["s"], ["s", "t"])
        self.assertEqual(apart(one, other), "")
        self.assertIs(apart(other, one), None)

    def test_bounded_machines_are_under_what_reads_no_more(self):
        chance = random.Random(41)
        for _ in range(80):
            machine = random_machine(chance, ["p", "q", "r"][:chance.randrange(1, 4)], "ab")
            free = Machine([(*arrow[:3], 0) for arrow in machine.arrows], machine.starts, machine.ends)
            self.assertIs(under(machine, free), bounded(machine))
            self.assertEqual(apart(machine, free), growing(machine))
            self.assertIs(under(free, machine), True)

    def test_states_that_are_on_no_run(self):
        useless = [("x", "a", "y", 0), ("y", "a", "x", 0)]
        one = Machine([*counter("a", "a").arrows, *useless], ["count"], ["count"])
        other = counter("a", "")
        self.assertEqual(apart(one, other), "(aa)*")
        self.assertIs(under(one, other), False)
        self.assertEqual(apart(counter("a", "a"), Machine([*other.arrows, *useless], ["count"], ["count"])), "(aa)*")
        self.assertIs(under(other, one), True)
        self.assertTrue(shows_under(other, one, pair_paper(other, one)))

    def test_parameters_by_name(self):
        one, other = capped("ab", "a", 3), counter("ab", "b")
        self.assertIs(under(other=other, one=one), True)
        self.assertIsNone(apart(other=other, one=one))
        self.assertEqual(apart(other=one, one=other), "(b)*")
        self.assertIs(alike(other=other, one=one), False)
        self.assertIs(is_pair_paper(pairs=pair_paper(other=other, one=one), other=other, one=one), True)

    def test_larger_machines(self):
        self.assertIs(under(nested("abc"), nested("abc")), True)
        self.assertIs(under(nested("abc"), counter("abc", "c")), True)
        self.assertEqual(apart(counter("abc", "c"), nested("abc")), "(cc)*")
        self.assertIs(under(nested("abc"), either(counter("abc", "a"), counter("abc", "b"))), True)
        self.assertEqual(len(pair_paper(nested("abc"), counter("abc", "c"))), 3453)


class PartingTest(unittest.TestCase):
    def test_what_parts_them_does_so(self):
        for one, other, text in KNOWN:
            if text:
                self.assertIn(along(one, text), ABOVE)
                self.assertIn(along(other, text), BELOW)
                limit = ceiling(other, text)
                for n in range(1, 8):
                    row = row_of(text, n)
                    self.assertLessEqual(price(other, row), limit)
                    cost = price(one, row)
                    if cost is not None:
                        self.assertGreaterEqual(cost, n // len(one.states))

    def test_held_against_all_pairs_of_tallies(self):
        chance = random.Random(42)
        seen = set()
        for _ in range(400):
            letters = chance.choice(["a", "ab", "ab", "abc"])
            one = random_machine(chance, ["p", "q", "r"][:chance.randrange(1, 4)], letters)
            other = random_machine(chance, ["q", "s"][:chance.randrange(1, 3)], chance.choice([letters, "ab"]))
            found = words.closure_of([one, other], MOST)
            if found is None:
                continue
            expected = self.expected(one, other, found)
            self.assertEqual(apart(one, other), expected)
            self.assertIs(under(one, other), expected is None)
            told = pair_paper(one, other)
            self.assertEqual(told is None, expected is not None)
            if told is not None:
                self.assertIs(type(told), list)
                self.assertTrue(all(type(pair) is tuple and len(pair) == 2 for pair in told))
                self.assertTrue(shows_under(one, other, told))
                self.assertIs(is_pair_paper(one, other, told), True)
            seen.add(expected is None or len(expected) > 1)
            seen.add(expected)
        self.assertLessEqual({None, "", "a", True, False, "(a)*"}, seen)

    def expected(self, one, other, found):
        """Return what parts one machine from another, in the words of point 16."""
        if reads_more_without_letters(one, other):
            return ""
        for (marks, others), weight in found:
            if words.along(others, other) in BELOW and words.along(marks, one) in ABOVE:
                return weight[2]
        return None


class PairPaperTest(unittest.TestCase):
    ONE, OTHER = capped("ab", "a", 3), counter("ab", "b")

    def test_none_of_the_pairs_may_be_missing(self):
        for one, other, text in KNOWN:
            told = pair_paper(one, other)
            if told is not None and len(told) < 100:
                for at in range(len(told)):
                    self.assertIs(is_pair_paper(one, other, told[:at] + told[at + 1:]), False)

    def test_order_repeats_tuples_and_lists(self):
        told = pair_paper(self.ONE, self.OTHER)
        passed = copy.deepcopy(told)
        for pairs in (told[::-1], told + told[:2], tuple(told), [list(pair) for pair in told]):
            self.assertIs(is_pair_paper(self.ONE, self.OTHER, pairs), True)
        self.assertEqual(told, passed)
        told.clear()
        self.assertEqual(pair_paper(self.ONE, self.OTHER), passed)

    def test_other_states(self):
        told = pair_paper(self.ONE, self.OTHER)
        one, other = told[0]
        for pair in [(one, Tally([], [])), (Tally(["x"], [["free"]]), other), (other, one), (one, one), (other, other)]:
            self.assertIs(is_pair_paper(self.ONE, self.OTHER, told + [pair]), False)
        self.assertIs(is_pair_paper(self.OTHER, self.ONE, told), False)

    def test_empty_lists(self):
        for one, other in [(EMPTY_ROW, EMPTY_ROW), (Machine([], [], []), Machine([], [], [])), (EMPTY_ROW, READ_NOTHING[1])]:
            self.assertEqual(pair_paper(one, other), [])
            self.assertIs(is_pair_paper(one, other, []), True)
        self.assertIs(is_pair_paper(Machine([], [], []), EMPTY_ROW, []), False)
        self.assertIs(is_pair_paper(self.ONE, self.OTHER, []), False)

    def test_letters_of_either_machine(self):
        one, other = counter("a", "a"), Machine([("s", "b", "t", 0)], ["s"], [])
        told = pair_paper(one, other)
        self.assertTrue(shows_under(one, other, told))
        letters = {(tally_of(one, letter).marks, tally_of(other, letter).marks) for letter in "ab"}
        self.assertLessEqual(letters, {marks_of_pair(pair) for pair in told})
        without = [pair for pair in told if marks_of_pair(pair) != (tally_of(one, "b").marks, tally_of(other, "b").marks)]
        self.assertIs(is_pair_paper(one, other, without), False)

    def test_more_pairs_than_needed(self):
        # All pairs of marks for machines of one state each, held against the words of the document.
        marks = [Tally(["s"], [[mark]]) for mark in words.WORDS]
        everything = list(itertools.product(marks, repeat=2))
        chance = random.Random(43)
        seen = set()
        machines = [
            Machine([("s", letter, "s", cost) for letter, cost in arrows], starts, starts)
            for arrows in ([], [("a", 0)], [("a", 1)], [("a", 0), ("b", 1)]) for starts in ([], ["s"])
        ]
        for one, other in itertools.product(machines, repeat=2):
            if "s" not in one.states or "s" not in other.states:
                continue
            told = pair_paper(one, other) or []
            for _ in range(60):
                pairs = told + chance.sample(everything, chance.randrange(len(everything) + 1))
                expected = shows_under(one, other, pairs)
                self.assertIs(is_pair_paper(one, other, pairs), expected)
                seen.add(expected)
        self.assertEqual(seen, {True, False})

    def test_settled_pairs_are_those_of_two_settled_tallies(self):
        # The first machine's tally of a is settled, that of the second is not, nor is the pair of both.
        one = Machine([("s", "a", "s", 1)], ["s"], ["s"])
        other = Machine([("p", "a", "q", 0), ("q", "a", "p", 0)], ["p"], [])
        told = pair_paper(one, other)
        self.assertEqual(len(told), 4)
        self.assertTrue(shows_under(one, other, told))
        self.assertIs(is_pair_paper(one, other, told), True)


if __name__ == "__main__":
    unittest.main()
