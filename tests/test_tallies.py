"""Tallies: what they are made of, how they are put behind each other and repeated, and the tallies of rows."""

import copy
import itertools
import random
import unittest
from unittest import mock

from enoughpaid import tallies
from enoughpaid.errors import BadRow, BadTally, NotSettled, UnknownState
from enoughpaid.known import gap
from enoughpaid.machines import Machine
from enoughpaid.tallies import MARKS, Tally, tally_of
from helpers import NOT_NAMES, NOT_ROWS, all_runs, random_machine, rows_up_to

WORDS = ["free", "some", "many", "never"]
NAMES = ["h", "b", "abcdefgh", "zz", "a", "ab", "q", "c"]
NOT_MARKS = [
    "", "Free", "free ", " some", "none", "freesome", "f", "MANY", None, 0, 1, 3, True, False, 1.5, b"free",
    ("free",), ["free"], {"free": 1}, {"free"}, object(), mock.ANY,
]
NOT_LISTS = [None, 0, 1, True, "", "a", "free", b"", b"a", {}, {"a": ["free"]}, set(), {"a"}, object(), mock.ANY]


def least(marks):
    """Return the least of some marks."""
    return min(marks, key=WORDS.index, default="never")


def greatest(marks):
    """Return the greatest of some marks."""
    return max(marks, key=WORDS.index)


def behind(earlier, later):
    """Return the marks of one tally and another one behind it, in the words of point 9."""
    names = earlier.states
    return tuple(
        tuple(
            least([greatest([earlier.at(first, middle), later.at(middle, second)]) for middle in names])
            for second in names
        )
        for first in names
    )


def repeated(tally):
    """Return the marks of a settled tally repeated, in the words of point 10."""
    names = tally.states
    rounds = {name: "many" if tally.at(name, name) in ("some", "many") else tally.at(name, name) for name in names}
    return tuple(
        tuple(
            least([
                greatest([tally.at(first, middle), rounds[middle], tally.at(middle, second)]) for middle in names
            ])
            for second in names
        )
        for first in names
    )


def random_tally(chance, names):
    """Return a tally with marks by chance."""
    words = chance.choice([WORDS, WORDS + ["never"] * 4, ["free", "some", "never", "never"], ["some", "many", "never"]])
    return Tally(names, [[chance.choice(words) for name in names] for name in names])


def settled(tally):
    """Return the first settled tally among those of a tally behind itself, more and more often."""
    power = tally
    while behind(power, power) != power.marks:
        power = power.then(tally)
    return power


class TallyTest(unittest.TestCase):
    def test_marks(self):
        self.assertEqual(MARKS, ("free", "some", "many", "never"))
        self.assertIs(type(MARKS), tuple)

    def test_first_example_of_the_document(self):
        tally = Tally(["a", "b"], [["some", "free"], ["never", "some"]])
        self.assertEqual(
            [tally.then(tally).marks, tally.is_settled(), tally.then(tally).is_settled()],
            [(("some", "some"), ("never", "some")), False, True],
        )

    def test_second_example_of_the_document(self):
        tally = Tally(["a", "b"], [["some", "some"], ["never", "free"]])
        self.assertEqual(
            [tally.repeated().marks, tally.at("a", "b"), tally.between(["a"], ["a", "b"]), tally.between(["a"], [])],
            [(("many", "some"), ("never", "free")), "some", "some", "never"],
        )

    def test_states_in_any_order(self):
        marks = {("p", "p"): "free", ("p", "q"): "some", ("q", "p"): "many", ("q", "q"): "never", ("r", "r"): "some"}
        expected = Tally(
            ["p", "q", "r"], [["free", "some", "never"], ["many", "never", "never"], ["never", "never", "some"]]
        )
        for order in itertools.permutations("pqr"):
            rows = [[marks.get((first, second), "never") for second in order] for first in order]
            tally = Tally(list(order), rows)
            self.assertEqual(tally.states, ("p", "q", "r"))
            self.assertEqual(tally.marks, (("free", "some", "never"), ("many", "never", "never"),
                                           ("never", "never", "some")))
            self.assertTrue(tally == expected)
            for first, second in itertools.product("pqr", repeat=2):
                self.assertEqual(tally.at(first, second), marks.get((first, second), "never"))

    def test_lists_and_tuples_alike(self):
        tally = Tally(("b", "a"), (["free", "some"], ("many", "never")))
        self.assertEqual(tally, Tally(["b", "a"], [("free", "some"), ["many", "never"]]))
        for part in (tally.states, tally.marks, *tally.marks):
            self.assertIs(type(part), tuple)

    def test_no_states(self):
        for empty in ([], ()):
            tally = Tally(empty, empty)
            self.assertEqual([tally.states, tally.marks], [(), ()])
            self.assertEqual(tally.then(tally), tally)
            self.assertIs(tally.is_settled(), True)
            self.assertEqual(tally.repeated(), tally)
            self.assertEqual(tally.between([], []), "never")

    def test_eight_states(self):
        marks = [[WORDS[(at * 3 + place) % 4] for place in range(8)] for at in range(8)]
        tally = Tally(NAMES, marks)
        self.assertEqual(tally.states, tuple(sorted(NAMES)))
        for at, place in itertools.product(range(8), repeat=2):
            self.assertEqual(tally.at(NAMES[at], NAMES[place]), marks[at][place])

    def test_what_is_passed_is_copied_and_not_modified(self):
        states, marks = ["b", "a"], [["free", "some"], ["many", "never"]]
        tally, passed = Tally(states, marks), copy.deepcopy([states, marks])
        self.assertEqual([states, marks], passed)
        marks[0][0] = "never"
        marks[1] = ["free", "free"]
        states.append("c")
        states[0] = "z"
        self.assertEqual(tally.states, ("a", "b"))
        self.assertEqual(tally.marks, (("never", "many"), ("some", "free")))

    def test_properties_cannot_be_assigned(self):
        tally = Tally(["a"], [["free"]])
        for name in ("states", "marks"):
            with self.assertRaises(AttributeError):
                setattr(tally, name, ())

    def test_parameters_by_name(self):
        tally = Tally(marks=[["free", "some"], ["never", "many"]], states=["a", "b"])
        self.assertEqual(tally.at(other="b", state="a"), "some")
        self.assertEqual(tally.between(ends=["a"], starts=["b"]), "never")
        self.assertEqual(tally.then(other=tally), tally.then(tally))
        self.assertEqual(tally_of(row="a", machine=gap("a", "b")), tally_of(gap("a", "b"), "a"))


class WrongTallyTest(unittest.TestCase):
    def fails(self, states, marks):
        with self.assertRaises(BadTally) as caught:
            Tally(states, marks)
        self.assertIs(type(caught.exception), BadTally)

    def test_nine_states(self):
        names = NAMES + ["i"]
        self.fails(names, [["free"] * 9 for name in names])
        self.fails(names[:9] + names[:1], [["free"] * 10 for at in range(10)])

    def test_names_twice(self):
        self.fails(["a", "a"], [["free", "free"], ["free", "free"]])
        self.fails(["a", "b", "a"], [["some"] * 3] * 3)
        self.fails(["a", "a"], [["free"]])

    def test_no_names(self):
        for name in NOT_NAMES:
            self.fails([name], [["free"]])
            self.fails(["a", name], [["free", "free"], ["free", "free"]])
            self.fails([name, "a", name], [["free"] * 3] * 3)

    def test_rows_too_few_or_too_many(self):
        for count in range(5):
            for number in range(5):
                if count != number:
                    self.fails(NAMES[:count], [["some"] * count] * number)

    def test_rows_too_short_or_too_long(self):
        for length in (0, 1, 3, 4):
            self.fails(["a", "b"], [["free"] * length, ["free"] * 2])
            self.fails(["a", "b"], [["free"] * 2, ["free"] * length])
        self.fails(["a"], [[]])
        self.fails([], [[]])

    def test_no_marks(self):
        for mark in NOT_MARKS:
            self.fails(["a"], [[mark]])
            self.fails(["a", "b"], [["free", "some"], ["many", mark]])
            self.fails(["a", "b"], [["free", mark], ["many", "never"]])

    def test_objects_that_are_no_lists(self):
        for value in NOT_LISTS:
            self.fails(value, [["free"]])
            self.fails(value, [])
            self.fails(["a"], value)
            self.fails([], value)
            self.fails(["a"], [value])
            self.fails(["a", "b"], [["free", "free"], value])
            self.fails(value, value)


class AtTest(unittest.TestCase):
    def setUp(self):
        self.tally = Tally(["b", "a"], [["free", "some"], ["many", "never"]])

    def fails(self, state, call, *passed):
        with self.assertRaises(UnknownState) as caught:
            call(*passed)
        self.assertIs(type(caught.exception), UnknownState)
        self.assertIs(caught.exception.state, state)

    def test_all_pairs(self):
        pairs = [("b", "b"), ("b", "a"), ("a", "b"), ("a", "a")]
        self.assertEqual([self.tally.at(*pair) for pair in pairs], WORDS)

    def test_at_with_things_that_are_no_states(self):
        for name in NOT_NAMES + ["c", "ab"]:
            self.fails(name, self.tally.at, name, "a")
            self.fails(name, self.tally.at, "a", name)
            self.fails(name, self.tally.at, name, "x")
        self.fails("x", self.tally.at, "x", "y")
        self.fails("a", Tally([], []).at, "a", "b")

    def test_between(self):
        tally = self.tally
        for starts in ([], ["a"], ["b"], ["a", "b"], ["b", "a"], ("a", "a", "b")):
            for ends in ([], ["a"], ["b"], ["a", "b"], ["b", "a"], ("b", "b")):
                expected = least([tally.at(start, end) for start in starts for end in ends])
                self.assertEqual(tally.between(starts, ends), expected)
        self.assertEqual(tally.between(["a"], ["b", "a"]), "many")

    def test_between_with_things_that_are_no_states(self):
        for name in NOT_NAMES + ["c", "ab"]:
            self.fails(name, self.tally.between, ["a", name, "x"], ["y"])
            self.fails(name, self.tally.between, [name], [])
            self.fails(name, self.tally.between, [], [name])
            self.fails(name, self.tally.between, ["a", "b"], ["b", name, "x"])

    def test_starts_come_before_ends(self):
        self.fails("x", self.tally.between, ["a", "x"], ["y", "z"])
        self.fails("y", self.tally.between, ["a"], ["y", "z"])
        self.fails("a", Tally([], []).between, ["a"], ["b"])


class ThenTest(unittest.TestCase):
    def test_held_against_the_words_of_the_document(self):
        chance = random.Random(1)
        for _ in range(200):
            names = chance.sample(NAMES, chance.randrange(9))
            one, other = random_tally(chance, names), random_tally(chance, names)
            both = one.then(other)
            self.assertIsInstance(both, Tally)
            self.assertEqual(both.states, tuple(sorted(names)))
            self.assertEqual(both.marks, behind(one, other))
            self.assertEqual(both, Tally(both.states, both.marks))

    def test_all_tallies_of_one_state(self):
        for first, second in itertools.product(WORDS, repeat=2):
            both = Tally(["a"], [[first]]).then(Tally(["a"], [[second]]))
            self.assertEqual(both.marks, ((greatest([first, second]),),))

    def test_the_order_counts(self):
        one = Tally(["a", "b"], [["never", "free"], ["never", "never"]])
        other = Tally(["a", "b"], [["never", "never"], ["never", "some"]])
        self.assertEqual(one.then(other).at("a", "b"), "some")
        self.assertEqual(other.then(one).at("a", "b"), "never")

    def test_other_states(self):
        tally = Tally(["a", "b"], [["free"] * 2] * 2)
        others = [
            Tally([], []), Tally(["a"], [["free"]]), Tally(["a", "c"], [["free"] * 2] * 2),
            Tally(["a", "b", "c"], [["free"] * 3] * 3),
        ]
        for other in others:
            for first, second in ((tally, other), (other, tally)):
                with self.assertRaises(BadTally) as caught:
                    first.then(second)
                self.assertIs(type(caught.exception), BadTally)
        self.assertEqual(tally, Tally(["a", "b"], [["free"] * 2] * 2))

    def test_states_in_another_order_are_the_same(self):
        one = Tally(["a", "b"], [["free", "some"], ["many", "never"]])
        other = Tally(["b", "a"], [["never", "many"], ["some", "free"]])
        self.assertEqual(one.then(other), one.then(one))


class RepeatedTest(unittest.TestCase):
    def test_settled(self):
        chance = random.Random(2)
        seen = set()
        for _ in range(300):
            tally = random_tally(chance, chance.sample(NAMES, chance.randrange(4)))
            self.assertIs(tally.is_settled(), behind(tally, tally) == tally.marks)
            seen.add(tally.is_settled())
        self.assertEqual(seen, {True, False})

    def test_held_against_the_words_of_the_document(self):
        chance = random.Random(3)
        for _ in range(300):
            tally = settled(random_tally(chance, chance.sample(NAMES, chance.randrange(9))))
            passed = copy.deepcopy(tally)
            again = tally.repeated()
            self.assertIsInstance(again, Tally)
            self.assertEqual(again.states, tally.states)
            self.assertEqual(again.marks, repeated(tally))
            self.assertIs(again.is_settled(), True)
            self.assertEqual(again.repeated(), again)
            self.assertEqual(tally, passed)

    def test_all_tallies_of_one_state(self):
        for mark, turned in (("free", "free"), ("some", "many"), ("many", "many"), ("never", "never")):
            self.assertEqual(Tally(["a"], [[mark]]).repeated().marks, ((turned,),))

    def test_all_tallies_of_two_states(self):
        for marks in itertools.product(WORDS, repeat=4):
            tally = Tally(["a", "b"], [marks[:2], marks[2:]])
            if behind(tally, tally) == tally.marks:
                self.assertIs(tally.is_settled(), True)
                self.assertEqual(tally.repeated().marks, repeated(tally))
            else:
                self.assertIs(tally.is_settled(), False)
                self.fails(tally)

    def fails(self, tally):
        with self.assertRaises(NotSettled) as caught:
            tally.repeated()
        self.assertIs(type(caught.exception), NotSettled)
        self.assertEqual(caught.exception.part, "")

    def test_not_settled(self):
        self.fails(Tally(["a", "b"], [["some", "free"], ["never", "some"]]))
        self.fails(Tally(["a", "b"], [["never", "free"], ["free", "never"]]))


class EqualityTest(unittest.TestCase):
    def test_tallies(self):
        tally = Tally(["a", "b"], [["free", "some"], ["many", "never"]])
        for other in (tally, Tally(["b", "a"], [["never", "many"], ["some", "free"]]), copy.deepcopy(tally)):
            self.assertIs(tally == other, True)
            self.assertIs(tally != other, False)
        for other in (
            Tally(["a", "b"], [["free", "some"], ["many", "many"]]),
            Tally(["a", "b"], [["free", "many"], ["some", "never"]]),
            Tally(["a", "c"], [["free", "some"], ["many", "never"]]),
            Tally(["a"], [["free"]]),
            Tally([], []),
        ):
            self.assertIs(tally == other, False)
            self.assertIs(tally != other, True)

    def test_other_values(self):
        tally = Tally(["a"], [["free"]])
        machine = Machine([("a", "a", "a", 0)], ["a"], ["a"])
        for other in (None, 0, True, "", "free", [], (("a",), (("free",),)), [["free"]], tally.marks, {}, Tally, machine):
            self.assertIs(tally == other, False)
            self.assertIs(tally != other, True)
            self.assertIs(other == tally, False)
            self.assertIs(other != tally, True)
        self.assertIs(Tally([], []) == (), False)


class TallyOfTest(unittest.TestCase):
    def held_against_all_runs(self, machine, row):
        expected = []
        for state in machine.states:
            expected.append([])
            for other in machine.states:
                prices = [cost for cost, states in all_runs(machine, row, [state], [other])]
                expected[-1].append("never" if not prices else "free" if 0 in prices else "some")
        tally = tally_of(machine, row)
        self.assertIsInstance(tally, Tally)
        self.assertEqual(tally, Tally(machine.states, expected))
        self.assertEqual(tally.marks, tuple(map(tuple, expected)))

    def test_held_against_all_runs(self):
        chance = random.Random(4)
        for names in (["p"], ["p", "q"], ["p", "q", "qa"]):
            for _ in range(20):
                machine = random_machine(chance, names, "ab")
                for row in rows_up_to("ab", 4) + ["c", "ac", "ca"]:
                    self.held_against_all_runs(machine, row)

    def test_the_letters_put_one_behind_the_other(self):
        chance = random.Random(5)
        for count in range(9):
            for _ in range(5):
                machine = random_machine(chance, NAMES[:count], "abc")
                row = "".join([chance.choice("abc") for _ in range(chance.randrange(1, 12))])
                tally = tally_of(machine, row[0])
                for letter in row[1:]:
                    tally = tally.then(tally_of(machine, letter))
                self.assertEqual(tally_of(machine, row), tally)
                self.assertEqual(tally_of(machine, "").then(tally), tally)

    def test_gap(self):
        tally = tally_of(gap("a", "b"), "ab")
        self.assertEqual(tally.states, ("after", "before", "within"))
        self.assertEqual(
            tally.marks, (("free", "never", "never"), ("never", "free", "free"), ("some", "never", "never"))
        )

    def test_the_row_without_letters(self):
        tally = tally_of(gap("a", "b"), "")
        for state, other in itertools.product(tally.states, repeat=2):
            self.assertEqual(tally.at(state, other), "free" if state == other else "never")

    def test_letters_that_no_arrow_has(self):
        for row in ("c", "ac", "zb", "abcab"):
            self.assertEqual(tally_of(gap("a", "b"), row).marks, (("never",) * 3,) * 3)

    def test_starts_and_ends_do_not_count(self):
        arrows = [("p", "a", "q", 1), ("q", "a", "p", 0)]
        expected = (("never", "some"), ("free", "never"))
        for starts, ends in (([], []), (["p"], []), ([], ["q"]), (["q"], ["q"])):
            self.assertEqual(tally_of(Machine(arrows, starts, ends), "a").marks, expected)
        self.assertEqual(tally_of(Machine([], ["s"], ["e"]), "").states, ("e", "s"))

    def test_no_states(self):
        for row in ("", "a", "abc"):
            self.assertEqual(tally_of(Machine([], [], []), row), Tally([], []))

    def test_long_rows(self):
        names = [letter + "s" for letter in "abcdefgh"]
        arrows = [(state, "a", after, (at + place) % 3) for at, state in enumerate(names)
                  for place, after in enumerate(names)]
        self.assertEqual(tally_of(Machine(arrows, [], []), "a" * 5000).between(names, names), "free")
        ring = [(names[at], "a", names[(at + 1) % 8], 1 if at == 0 else 0) for at in range(8)]
        tally = tally_of(Machine(ring, [], []), "a" * 4999)
        self.assertEqual([tally.at("as", after) for after in names], ["never"] * 7 + ["some"])
        self.assertEqual(tally_of(Machine(ring, [], []), "a" * 7).at("bs", "as"), "free")

    def test_somewhat_more_than_eight_states(self):
        names = [letter + "s" for letter in "abcdefghi"]
        ring = Machine([(names[at], "a", names[(at + 1) % 9], at % 2) for at in range(9)], [], [])
        tally = tally_of(ring, "a")
        self.assertEqual(tally.states, tuple(names))
        self.assertEqual([tally.at("as", "bs"), tally.at("bs", "cs"), tally.at("cs", "as")], ["free", "some", "never"])
        self.assertEqual(tally.then(tally), tally_of(ring, "aa"))

    def test_objects_that_are_no_rows(self):
        for row in NOT_ROWS:
            for machine in (gap("a", "b"), Machine([], [], [])):
                with self.assertRaises(BadRow) as caught:
                    tally_of(machine, row)
                self.assertIs(type(caught.exception), BadRow)
                self.assertIs(caught.exception.row, row)

    def test_equal_arguments_give_equal_values_and_nothing_is_modified(self):
        machine = gap("a", "b")
        for _ in range(3):
            self.assertEqual(tally_of(machine, "ab"), tally_of(gap("a", "b"), "ab"))
        self.assertEqual(machine.text(), gap("a", "b").text())
        tally = tally_of(machine, "")
        passed = copy.deepcopy(tally)
        tally.then(tally_of(machine, "a"))
        tally.repeated()
        tally.between(["after"], ["before"])
        self.assertEqual(tally, passed)
        self.assertEqual(tallies.MARKS, tuple(WORDS))


if __name__ == "__main__":
    unittest.main()
