"""Closures with their least expressions, and whether machines are bounded: papers and growing expressions."""

import copy
import itertools
import random
import unittest

import words
from enoughpaid.building import behind, either, summed, within
from enoughpaid.closures import bounded, closure, growing, is_paper, paper
from enoughpaid.expressions import along, row_of, tally_along
from enoughpaid.known import capped, counter, gap, nested
from enoughpaid.machines import Machine
from enoughpaid.prices import price
from enoughpaid.tallies import Tally, tally_of
from helpers import random_machine

MOST = 25
LOOP = [("s", "a", "s", 1)]
READ_NOTHING = [
    Machine([], [], []), Machine([], ["s"], ["e"]), Machine(LOOP, [], ["s"]), Machine(LOOP, ["s"], []),
    Machine(LOOP, [], []), Machine([("s", "a", "s", 1), ("t", "b", "t", 1)], ["s"], ["t"]),
]
BOUNDED = [
    capped("a", "a", 1), capped("ab", "a", 3), capped("abc", "ac", 99), counter("ab", ""), counter("abcd", ""),
    Machine([], ["s"], ["s"]), Machine([("s", "a", "t", 99), ("t", "b", "u", 99)], ["s"], ["u"]),
    behind(capped("ab", "a", 2), capped("ab", "b", 3)), summed(capped("ab", "a", 2), capped("ab", "b", 3)),
    either(counter("ab", "a"), counter("ab", "")), within(capped("ab", "a", 4), gap("a", "b")),
    # Each letter can be paid at once or be waited for, so no row costs more than 1.
    Machine([("p", "a", "p", 0), ("p", "b", "q", 1), ("q", "a", "q", 0), ("q", "b", "q", 0)], ["p"], ["p", "q"]),
]
UNBOUNDED = [
    (counter("a", "a"), "(a)*"), (counter("ab", "b"), "(b)*"), (counter("ba", "ab"), "(a)*"), (gap("a", "b"), "b(a)*b"),
    (gap("b", "a"), "a(b)*a"), (nested("a"), "(a)*"), (nested("ab"), "((a)*b(a)*b)*"),
    (nested("abc"), "(((a)*b(a)*b)*c((a)*b(a)*b)*c)*"), (either(counter("ab", "a"), counter("ab", "b")), "(ab)*"),
]


def shows_bounds(machine, tallies):
    """Tell whether a list of tallies is a paper, in the words of point 15."""
    if any(tally.states != machine.states for tally in tallies):
        return False
    held = {tally.marks for tally in tallies}
    letters = [tally_of(machine, letter) for letter in machine.letters]
    settled = [tally for tally in tallies if tally.is_settled()]
    return (
        all(tally.marks in held for tally in letters)
        and all(tally.repeated().marks in held for tally in settled)
        and all(tally.then(letter).marks in held for tally in tallies for letter in letters)
        and all(tally.then(other.repeated()).marks in held for tally in tallies for other in settled)
        and all(tally.between(machine.starts, machine.ends) != "many" for tally in tallies)
    )


class ClosureTest(unittest.TestCase):
    def held_against_the_words(self, machine, found):
        passed = copy.deepcopy(machine)
        told = closure(machine)
        self.assertIs(type(told), list)
        for pair in told:
            self.assertIs(type(pair), tuple)
            self.assertIsInstance(pair[0], Tally)
            self.assertEqual(pair[0].states, machine.states)
        self.assertEqual(
            [(words.marks_of(tally), text) for tally, text in told],
            [(marks_of_each[0], weight[2]) for marks_of_each, weight in found],
        )
        self.assertEqual(closure(machine), told)
        self.assertEqual(machine, passed)

    def test_held_against_all_tallies(self):
        chance = random.Random(31)
        tried = 0
        for _ in range(250):
            names = ["p", "q", "r", "s"][:chance.randrange(1, 5)]
            machine = random_machine(chance, names, chance.choice(["a", "ab", "ab", "abc"]))
            found = words.closure_of([machine], MOST)
            if found is not None:
                tried += 1
                self.held_against_the_words(machine, found)
        self.assertGreater(tried, 150)

    def test_known_machines(self):
        for machine in [gap("a", "b"), nested("ab"), counter("abc", "b"), capped("ab", "a", 3)] + READ_NOTHING:
            self.held_against_the_words(machine, words.closure_of([machine]))

    def test_least_expressions_held_against_all_small_ones(self):
        chance = random.Random(32)
        expressions = words.expressions_up_to("ab", 2, 4)
        for _ in range(12):
            machine = random_machine(chance, ["p", "q", "r"][:chance.randrange(1, 4)], "ab")
            if len(machine.letters) < 2:
                continue
            least = {}
            for many, size, text in expressions:
                marks = words.tally_of_expression(machine, text)
                if marks is not None:
                    least.setdefault(words.fixed([marks]), text)
            told = {words.fixed([words.marks_of(tally)]): text for tally, text in closure(machine)}
            self.assertLessEqual(set(least), set(told))
            for key, text in told.items():
                if text.count("*") <= 2 and len(text.replace("(", "").replace(")*", "")) <= 4:
                    self.assertEqual(text, least[key])

    def test_larger_closures(self):
        for machine in [nested("abc"), summed(nested("ab"), gap("a", "b")), behind(gap("a", "b"), nested("ab"))]:
            told = closure(machine)
            weights = [(text.count("*"), len(text) - 3 * text.count("*"), text) for tally, text in told]
            self.assertEqual(weights, sorted(weights))
            held = {tally.marks for tally, text in told}
            self.assertEqual(len(held), len(told))
            for tally, text in told[:20] + told[-60:]:
                self.assertEqual(tally_along(machine, text), tally)
                for letter in machine.letters:
                    self.assertIn(tally.then(tally_of(machine, letter)).marks, held)
                if tally.is_settled():
                    self.assertIn(tally.repeated().marks, held)

    def test_letters_alike(self):
        machine = Machine([(state, letter, state, 1) for state in ("p", "q") for letter in "zxc"], ["p"], ["q"])
        self.assertEqual([text for tally, text in closure(machine)], ["c", "(c)*"])
        self.assertEqual(closure(counter("xyz", "")), [(Tally(["count"], [["free"]]), "x")])

    def test_few_tallies_by_hand(self):
        one, two = Tally(["count"], [["some"]]), Tally(["count"], [["many"]])
        self.assertEqual(closure(counter("a", "a")), [(one, "a"), (two, "(a)*")])
        self.assertEqual(closure(machine=counter("ab", "a")), [(one, "a"), (Tally(["count"], [["free"]]), "b"), (two, "(a)*")])
        step = Machine([("s", "a", "e", 0)], ["s"], ["e"])
        never = Tally(["e", "s"], [["never"] * 2] * 2)
        self.assertEqual(closure(step), [(Tally(["e", "s"], [["never", "never"], ["free", "never"]]), "a"), (never, "aa")])

    def test_no_letters(self):
        for machine in (Machine([], [], []), Machine([], ["s"], ["s"]), Machine([], ["s"], ["e", "f"])):
            self.assertEqual(closure(machine), [])

    def test_lists_are_new(self):
        machine = gap("a", "b")
        first = closure(machine)
        first.clear()
        self.assertEqual(len(closure(machine)), len(words.closure_of([machine])))


class BoundedTest(unittest.TestCase):
    def test_bounded_machines(self):
        for machine in BOUNDED + READ_NOTHING:
            passed = copy.deepcopy(machine)
            self.assertIs(bounded(machine), True)
            self.assertIsNone(growing(machine))
            self.assertTrue(shows_bounds(machine, paper(machine)))
            self.assertIs(is_paper(machine, paper(machine)), True)
            self.assertEqual(machine, passed)

    def test_machines_without_bounds(self):
        for machine, text in UNBOUNDED:
            self.assertIs(bounded(machine), False)
            self.assertEqual(growing(machine), text)
            self.assertIsNone(paper(machine))
            self.assertEqual(along(machine, text), "many")
            for n in range(1, 6):
                self.assertGreaterEqual(price(machine, row_of(text, n)), n // len(machine.states))

    def test_parameters_by_name(self):
        machine = capped("a", "a", 1)
        self.assertIs(bounded(machine=machine), True)
        self.assertIsNone(growing(machine=machine))
        self.assertIs(is_paper(tallies=paper(machine=machine), machine=machine), True)

    def test_held_against_all_tallies(self):
        chance = random.Random(33)
        seen = set()
        for _ in range(250):
            names = ["p", "q", "r"][:chance.randrange(1, 4)]
            machine = random_machine(chance, names, chance.choice(["a", "ab", "abc"]))
            found = words.closure_of([machine], MOST)
            if found is None:
                continue
            texts = [weight[2] for marks_of_each, weight in found if words.along(marks_of_each[0], machine) == "many"]
            self.assertIs(bounded(machine), not texts)
            self.assertEqual(growing(machine), texts[0] if texts else None)
            told = paper(machine)
            self.assertEqual(told is None, bool(texts))
            if told is not None:
                self.assertIs(type(told), list)
                self.assertTrue(shows_bounds(machine, told))
            seen.add(not texts)
        self.assertEqual(seen, {True, False})

    def test_prices_of_rows(self):
        chance = random.Random(34)
        for _ in range(60):
            machine = random_machine(chance, ["p", "q", "r"][:chance.randrange(1, 4)], "ab")
            text = growing(machine)
            self.assertIs(bounded(machine), text is None)
            if text is not None:
                for n in (1, 2, 3, 4, 7):
                    if len(row_of(text, n)) <= 5000:
                        self.assertGreaterEqual(price(machine, row_of(text, n)), n // len(machine.states))

    def test_states_that_are_on_no_run(self):
        # They do not change the prices, but an expression has to have a tally for them, too.
        useless = [("x", "a", "y", 0), ("y", "a", "x", 0), ("x", "b", "x", 1), ("z", "b", "z", 1)]
        machine = Machine([*counter("a", "a").arrows, *useless], ["count"], ["count"])
        self.assertIs(bounded(machine), False)
        self.assertEqual(growing(machine), "(aa)*")
        machine = Machine([*capped("a", "a", 4).arrows, *useless], ["before"], ["capped", "counted", "before"])
        self.assertIs(bounded(machine), True)
        self.assertIsNone(growing(machine))
        self.assertTrue(shows_bounds(machine, paper(machine)))

    def test_somewhat_more_than_eight_states(self):
        names = ["".join(signs) for signs in itertools.product("ab", repeat=4)][:10]
        arrows = [(names[at], "a", names[(at + 1) % 10], 1 if at == 3 else 0) for at in range(10)]
        self.assertEqual(growing(Machine(arrows, names[:1], names)), "(" + "a" * 10 + ")*")
        machine = Machine([*arrows, (names[9], "a", names[9], 0)], names[:1], names)
        self.assertIs(bounded(machine), True)
        self.assertIs(is_paper(machine, paper(machine)), True)

    def test_starts_and_ends_decide(self):
        arrows = [("p", "a", "p", 1), ("p", "b", "q", 0), ("q", "a", "q", 0)]
        for starts, ends, text in [
            (["p"], ["p"], "(a)*"), (["p"], ["q"], "(a)*b"), (["q"], ["q"], None), (["q"], ["p"], None),
            (["p", "q"], ["p", "q"], "(a)*b"), ([], ["p"], None), (["p"], [], None),
        ]:
            machine = Machine(arrows, starts, ends)
            self.assertEqual(growing(machine), text)
            self.assertIs(bounded(machine), text is None)


class PaperTest(unittest.TestCase):
    def test_none_of_the_closure_may_be_missing(self):
        for machine in BOUNDED:
            told = paper(machine)
            for at in range(len(told)):
                self.assertIs(is_paper(machine, told[:at] + told[at + 1:]), False)

    def test_order_repeats_and_tuples(self):
        machine = behind(capped("ab", "a", 2), capped("ab", "b", 3))
        told = paper(machine)
        passed = copy.deepcopy(told)
        self.assertIs(is_paper(machine, told[::-1]), True)
        self.assertIs(is_paper(machine, told + told[:3]), True)
        self.assertIs(is_paper(machine, tuple(told)), True)
        self.assertEqual(told, passed)
        told.clear()
        self.assertEqual(paper(machine), passed)

    def test_other_states(self):
        machine = capped("ab", "a", 3)
        told = paper(machine)
        others = [Tally([], []), Tally(["x"], [["free"]]), Tally(["before", "capped", "x"], [["free"] * 3] * 3)]
        for other in others:
            self.assertIs(is_paper(machine, told + [other]), False)
            self.assertIs(is_paper(machine, [other] + told), False)
        self.assertIs(is_paper(machine, paper(capped("a", "a", 3))), False)
        self.assertIs(is_paper(Machine([], [], []), [Tally(["x"], [["free"]])]), False)

    def test_empty_lists(self):
        for machine in (Machine([], [], []), Machine([], ["s"], ["s"])):
            self.assertEqual(paper(machine), [])
            self.assertIs(is_paper(machine, []), True)
        self.assertIs(is_paper(capped("a", "a", 3), []), False)
        self.assertIs(is_paper(Machine([], [], []), [Tally([], [])]), True)

    def test_more_tallies_than_needed(self):
        # A paper may have more tallies, with what they lead to; held against the words of the document.
        marks = [Tally(["s"], [[mark]]) for mark in words.WORDS]
        for arrows in ([], [("s", "a", "s", 0)], [("s", "a", "s", 0), ("s", "b", "s", 1)], [("t", "a", "t", 0)]):
            for starts, ends in ((["s"], ["s"]), (["s"], []), ([], [])):
                machine = Machine([arrow for arrow in arrows if arrow[0] == "s"], starts, ends)
                for many in range(5):
                    for tallies in itertools.combinations(marks, many):
                        expected = shows_bounds(machine, tallies)
                        self.assertIs(is_paper(machine, list(tallies)), expected)

    def test_more_tallies_of_two_states(self):
        chance = random.Random(35)
        rows = list(itertools.product(words.WORDS, repeat=2))
        everything = [Tally(["p", "q"], [row, other]) for row in rows for other in rows]
        seen = set()
        for _ in range(60):
            machine = random_machine(chance, ["p", "q"], chance.choice(["a", "ab"]))
            told = paper(machine)
            if told is None or machine.states != ("p", "q"):
                continue
            for _ in range(12):
                tallies = told + chance.sample(everything, chance.randrange(1, 4))
                if chance.randrange(2):
                    tallies = self.with_what_they_lead_to(machine, tallies)
                if chance.randrange(4) == 0:
                    tallies.remove(chance.choice(tallies))
                chance.shuffle(tallies)
                expected = shows_bounds(machine, tallies)
                self.assertIs(is_paper(machine, tallies), expected)
                seen.add((expected, len(tallies) > len(told)))
        self.assertLessEqual({(True, True), (False, True)}, seen)

    def with_what_they_lead_to(self, machine, tallies):
        """Return the tallies with all that a paper with them has."""
        held = {tally.marks: tally for tally in tallies}
        size = 0
        while size < len(held):
            size = len(held)
            repeats = [tally.repeated() for tally in held.values() if tally.is_settled()]
            letters = [tally_of(machine, letter) for letter in machine.letters]
            for tally in list(held.values()) + repeats:
                held[tally.marks] = tally
                for other in letters + repeats:
                    held[tally.then(other).marks] = tally.then(other)
        return list(held.values())

    def test_no_paper_of_machines_without_bounds(self):
        for machine, text in UNBOUNDED:
            if len(machine.states) <= 4:
                self.assertIs(is_paper(machine, [tally for tally, told in closure(machine)]), False)

    def test_a_paper_of_another_machine(self):
        one, other = capped("ab", "a", 3), capped("ab", "ab", 3)
        self.assertIs(is_paper(one, paper(other)), False)
        # The tallies of a free letter are more than this machine needs.
        self.assertIs(is_paper(other, paper(one)), True)
        self.assertIs(is_paper(one, paper(capped("ab", "a", 70))), True)


if __name__ == "__main__":
    unittest.main()
