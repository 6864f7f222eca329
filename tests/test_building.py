"""Machines made of machines: the prices of rows held against the words of point 19, and their sizes."""

import copy
import itertools
import random
import unittest

from enoughpaid.building import behind, either, summed, turned, within
from enoughpaid.known import capped, counter, gap, nested
from enoughpaid.machines import Machine
from enoughpaid.prices import best, price
from helpers import random_machine, rows_up_to

NAMES = ["".join(signs) for signs in itertools.product("abcdefgh", repeat=2)]
LOOP = [("p", "a", "p", 1)]
EMPTY_ROW_ONLY = Machine([], ["p"], ["p"])
NOTHING = [
    Machine([], [], []), Machine(LOOP, [], ["p"]), Machine(LOOP, ["p"], []), Machine(LOOP, [], []),
    Machine([], ["s"], ["e"]), Machine([("p", "a", "q", 0)], ["q"], ["p"]),
]


def least(prices):
    """Return the least of the prices that are not None, None if there is none."""
    return min([cost for cost in prices if cost is not None], default=None)


def added(cost, toll):
    """Return the sum of two prices, None if one of them is None."""
    return None if cost is None or toll is None else cost + toll


def either_price(one, other, row):
    return least([price(one, row), price(other, row)])


def behind_price(one, other, row):
    return least([added(price(one, row[:cut]), price(other, row[cut:])) for cut in range(len(row) + 1)])


def within_price(one, other, row):
    return None if price(other, row) is None else price(one, row)


def summed_price(one, other, row):
    return added(price(one, row), price(other, row))


WORDS = [(either, either_price), (behind, behind_price), (within, within_price), (summed, summed_price)]


def ring(names, letter, cost):
    """Return arrows around a ring of states, of which the last one has this price."""
    arrows = [(state, letter, after, 0) for state, after in zip(names, names[1:])]
    return arrows + [(names[-1], letter, names[0], cost)]


class AgainstTheWordsTest(unittest.TestCase):
    def held_against_the_words(self, one, other, rows):
        """Compare all prices with the words of point 19, and sizes with the bounds; what is passed is as before."""
        passed = copy.deepcopy([one, other])
        dearest = [max([arrow[3] for arrow in machine.arrows], default=0) for machine in (one, other)]
        for build, words in WORDS:
            if build is summed and sum(dearest) > 99:
                continue
            machine = build(one, other)
            self.assertIsInstance(machine, Machine)
            for row in rows:
                self.assertEqual(price(machine, row), words(one, other, row), (build, row))
            together = len(one.states) + len(other.states)
            pairs = len(one.states) * len(other.states)
            self.assertLessEqual(len(machine.states), together if build in (either, behind) else pairs)
            self.assertEqual(machine, build(*copy.deepcopy(passed)))
        for machine in (one, other):
            back = turned(machine)
            self.assertIsInstance(back, Machine)
            self.assertLessEqual(len(back.states), len(machine.states))
            for row in rows:
                self.assertEqual(price(back, row), price(machine, row[::-1]))
        self.assertEqual([one, other], passed)
        self.assertEqual([one.states, other.states], [machine.states for machine in passed])

    def test_states_in_common(self):
        chance = random.Random(1)
        for _ in range(60):
            one, other = (random_machine(chance, ["p", "q", "qa"], "ab") for _ in range(2))
            self.held_against_the_words(one, other, rows_up_to("ab", 5) + ["c", "ac", "ca", "aca"])

    def test_the_same_machine_twice(self):
        chance = random.Random(2)
        for _ in range(30):
            machine = random_machine(chance, ["a", "b"], "ab")
            self.held_against_the_words(machine, machine, rows_up_to("ab", 5))

    def test_some_states_and_letters_in_common(self):
        chance = random.Random(3)
        for _ in range(40):
            one = random_machine(chance, ["p", "q"], chance.choice(["a", "ab", "bc"]))
            other = random_machine(chance, ["q", "r", "s"], chance.choice(["b", "ab", "abc"]))
            self.held_against_the_words(one, other, rows_up_to("abc", 4))
            self.held_against_the_words(other, one, rows_up_to("abc", 4))

    def test_names_such_as_a_program_would_make(self):
        chance = random.Random(4)
        for _ in range(20):
            one = random_machine(chance, ["aa", "ab", "b"], "ab")
            other = random_machine(chance, ["ba", "bb", "a"], "ab")
            self.held_against_the_words(one, other, rows_up_to("ab", 5))

    def test_few_arrows(self):
        chance = random.Random(5)
        names = ["p", "q", "r", "s"]
        for _ in range(60):
            machines = []
            for _ in range(2):
                arrows = [(chance.choice(names), chance.choice("ab"), chance.choice(names), chance.choice([0, 1, 7]))
                          for _ in range(chance.randrange(7))]
                machines.append(Machine(arrows, chance.sample(names, 2), chance.sample(names, 2)))
            self.held_against_the_words(*machines, rows_up_to("ab", 5))

    def test_known_machines(self):
        machines = [counter("ab", "a"), counter("a", "a"), capped("ab", "ab", 2), gap("a", "b"), nested("ab")]
        for one, other in itertools.product(machines, repeat=2):
            self.held_against_the_words(one, other, rows_up_to("ab", 6))

    def test_the_empty_row(self):
        step = Machine([("s", "a", "e", 2)], ["s"], ["e"])
        both = Machine([("s", "a", "e", 2)], ["s", "e"], ["e"])
        machines = [EMPTY_ROW_ONLY, step, both, counter("ab", "b"), Machine(LOOP, ["p", "q"], ["q", "r"])]
        for one, other in itertools.product(machines, repeat=2):
            self.held_against_the_words(one, other, rows_up_to("ab", 5))
        self.assertEqual([price(build(both, both), "") for build, words in WORDS], [0] * 4)
        self.assertEqual([price(build(step, both), "") for build, words in WORDS], [0, None, None, None])
        self.assertEqual([price(behind(both, step), row) for row in ("", "a", "aa")], [None, 2, 4])
        self.assertEqual([price(behind(step, both), row) for row in ("", "a", "aa")], [None, 2, 4])
        self.assertEqual([price(turned(both), ""), price(turned(step), "")], [0, None])

    def test_machines_that_read_nothing(self):
        others = NOTHING + [EMPTY_ROW_ONLY, gap("a", "b"), counter("ab", "a")]
        for one, other in itertools.product(NOTHING, others):
            self.held_against_the_words(one, other, rows_up_to("ab", 4))
            self.held_against_the_words(other, one, rows_up_to("ab", 4))
        for one, other in itertools.product(NOTHING, repeat=2):
            for build, words in WORDS:
                self.assertIsNone(best(build(one, other), ""))
                self.assertIsNone(best(build(one, other), "a"))


class ExamplesTest(unittest.TestCase):
    def test_example_of_the_document(self):
        one, other = counter("ab", "a"), counter("ab", "b")
        self.assertEqual(
            [price(either(one, other), "aab"), price(behind(one, other), "bbaa"), price(summed(one, other), "aab"),
             price(turned(one), "aab")],
            [1, 0, 3, 2],
        )

    def test_within_takes_the_first_price(self):
        one, other = counter("ab", "a"), gap("a", "b")
        self.assertEqual([price(within(one, other), row) for row in ("aabaab", "bb", "ab")], [4, 0, None])
        self.assertEqual([price(within(other, one), row) for row in ("aabaab", "bb", "ab")], [2, 0, None])

    def test_the_order_of_behind(self):
        one, other = counter("a", ""), counter("b", "b")
        self.assertEqual([price(behind(one, other), row) for row in ("aabb", "bbaa", "a", "b", "")],
                         [2, None, 0, 1, 0])

    def test_behind_finds_the_best_cut(self):
        machine = behind(counter("ab", "a"), counter("ab", "b"))
        self.assertEqual([price(machine, row) for row in ("bba", "abab", "bababaa", "aabb")], [0, 2, 2, 2])

    def test_machines_made_of_made_machines(self):
        one, other, third = counter("ab", "a"), gap("a", "b"), capped("ab", "b", 2)
        machine = either(behind(one, other), summed(turned(third), behind(third, third)))
        for row in rows_up_to("ab", 7):
            doubled = added(price(third, row[::-1]), behind_price(third, third, row))
            self.assertEqual(price(machine, row), least([behind_price(one, other, row), doubled]))
        for row in rows_up_to("ab", 6):
            self.assertEqual(price(turned(turned(other)), row), price(other, row))
            many = either(either(either(one, other), third), other)
            self.assertEqual(price(many, row), least([price(part, row) for part in (one, other, third)]))

    def test_parameters_by_name(self):
        one, other = counter("ab", "a"), gap("a", "b")
        for build, words in WORDS:
            self.assertEqual(build(other=other, one=one), build(one, other))
        self.assertEqual(turned(machine=other), turned(other))


class SizesTest(unittest.TestCase):
    def test_either_with_40_states_and_400_arrows(self):
        for count, many in ((20, 200), (39, 390), (1, 20)):
            arrows = [(state, letter, after, 99) for state in NAMES[:count] for letter in "abcdefghijklmnopqrst"
                      for after in NAMES[:count]]
            rest = [("p" + state, "x", "p" + after, 98) for state in NAMES[:40 - count] for after in NAMES[:40 - count]]
            rest += [("p" + state, "y", "p" + after, 0) for state in NAMES[:40 - count] for after in NAMES[:40 - count]]
            one = Machine(arrows[:many], NAMES[:count], NAMES[:count])
            shift = ["p" + state for state in NAMES[:40 - count]]
            other = Machine(rest[:400 - many], shift, shift)
            for machine in (either(one, other), either(other, one)):
                self.assertLessEqual(len(machine.states), 40)
                for row in ("", "a", "aa", "x", "xx", "y", "xy", "ax", "ab", "t"):
                    self.assertEqual(price(machine, row), either_price(one, other, row))

    def test_400_arrows_of_40_states(self):
        arrows = [(NAMES[at], "a", NAMES[(at * 7 + step) % 40], (at + step) % 100) for at in range(40)
                  for step in range(10)]
        machine = Machine(arrows, NAMES[:3], NAMES[5:7])
        self.assertEqual([len(machine.arrows), len(machine.states)], [400, 40])
        back = turned(machine)
        self.assertEqual([len(back.arrows), len(back.states)], [400, 40])
        nothing, one_state = Machine([], [], []), counter("a", "")
        for row in ("", "a", "aa", "a" * 50):
            self.assertEqual(price(back, row), price(machine, row))
            self.assertEqual(price(either(machine, nothing), row), price(machine, row))
            self.assertEqual(price(either(nothing, machine), row), price(machine, row))
            self.assertEqual(price(behind(machine, EMPTY_ROW_ONLY), row), price(machine, row))
            self.assertEqual(price(behind(EMPTY_ROW_ONLY, machine), row), price(machine, row))
            for build in (within, summed):
                self.assertEqual(price(build(machine, one_state), row), price(machine, row))
            self.assertEqual(price(summed(one_state, machine), row), price(machine, row))
            self.assertEqual(price(within(one_state, machine), row), within_price(one_state, machine, row))

    def test_pairs_of_40_states(self):
        for count, number in ((8, 5), (20, 2), (4, 10), (40, 1)):
            one = Machine(ring(NAMES[:count], "a", 50), NAMES[:1], NAMES[:1])
            other = Machine(ring(NAMES[:number], "a", 49) + [("aa", "b", "aa", 9)], NAMES[:1], NAMES[:1])
            for build, words in WORDS[2:]:
                machine = build(one, other)
                self.assertLessEqual(len(machine.states), 40)
                for many in range(90):
                    self.assertEqual(price(machine, "a" * many), words(one, other, "a" * many))
                self.assertIsNone(price(machine, "b"))

    def test_pairs_with_400_arrows(self):
        full = [(state, letter, after, 99) for state in NAMES[:5] for letter in "wxyz" for after in NAMES[:5]]
        one = Machine(full, NAMES[:5], NAMES[:5])
        other = Machine([("p", "w", "q", 0), ("q", "w", "p", 0), ("p", "x", "p", 0), ("q", "y", "q", 0)], ["p"], ["q"])
        for build, words in WORDS[2:]:
            for row in rows_up_to("wxyz", 4):
                self.assertEqual(price(build(one, other), row), words(one, other, row))
        two = Machine([(state, letter, after, 0) for state in "pq" for letter in "wxyz" for after in "pq"], "p", "q")
        self.assertEqual(len(summed(one, two).arrows), 400)
        self.assertEqual(price(summed(one, two), "wxyz"), 396)

    def test_pairs_that_no_run_has_do_not_count(self):
        one = Machine(ring(NAMES[:30], "a", 5), NAMES[:1], NAMES[:1])
        other = Machine(ring(NAMES[:15], "a", 3), NAMES[:1], NAMES[:1])
        for build, words in WORDS[2:]:
            machine = build(one, other)
            self.assertEqual(len(machine.states), 30)
            for many in (0, 1, 15, 30, 45, 60, 300):
                self.assertEqual(price(machine, "a" * many), words(one, other, "a" * many))

    def test_states_that_no_run_reaches_or_leaves_for_an_end_do_not_count(self):
        letters = "abcdefghijklmnopqrst"
        line = [(NAMES[at], letter, NAMES[at + 1], 1) for at in range(29) for letter in letters[:13]]
        one, other = Machine(line, NAMES[:1], NAMES[29:30]), Machine(line, NAMES[:1], NAMES[29:30])
        middle = [(NAMES[at], letter, NAMES[at + 1], 1) for at in range(20) for letter in letters]
        front, rear = Machine(middle, NAMES[:1], NAMES[1:2]), Machine(middle, NAMES[19:20], NAMES[20:21])
        for build, words in WORDS[2:]:
            for first, second in ((one, other), (front, front), (rear, rear), (front, rear), (rear, front)):
                machine = build(first, second)
                for row in ("", "a", "t", "ab", "a" * 29, "abcdefghijklm" * 2 + "abc"):
                    self.assertEqual(price(machine, row), words(first, second, row))
        for first, second in itertools.product((front, rear), repeat=2):
            for row in ("", "a", "t", "at", "abc", "tu"):
                self.assertEqual(price(behind(first, second), row), behind_price(first, second, row))

    def test_behind_with_arrows_that_it_has_in_several_ways(self):
        names = NAMES[:6]
        one = Machine([(state, letter, after, len(after)) for state in names for letter in "abcdef"
                       for after in names], names[:2], names)
        other = Machine([("p", letter, after, 1) for letter in "abcdefghijklmno" for after in "pr"], ["p"], ["r"])
        for first, second in ((one, other), (turned(other), turned(one))):
            machine = behind(first, second)
            for row in ("", "a", "j", "aa", "aj", "ja", "abj", "jab", "ijf"):
                self.assertEqual(price(machine, row), behind_price(first, second, row))

    def test_behind_with_many_ends_or_many_starts(self):
        names, others = NAMES[:20], NAMES[20:40]
        many_ends = Machine(
            [(state, letter, after, 2) for state in names[:1] for letter in "abcde" for after in names]
            + ring(names, "g", 1), names[:1], names
        )
        many_starts = Machine(
            [(state, letter, others[0], 3) for state in others for letter in "abcde"] + ring(others, "g", 1),
            others, others[:1],
        )
        one_start = Machine(ring(others, "a", 4), others[:1], others[:1])
        one_end = Machine(ring(names, "a", 4), names[:1], names[:1])
        rows = ["", "a", "ag", "ga", "gg", "egga", "agag", "a" * 21, "g" * 19 + "ab", "gga" + "a" * 19]
        for one, other in (
            (many_ends, one_start), (one_end, many_starts), (many_ends, one_end), (one_start, many_starts),
            (many_starts, many_ends), (Machine(many_ends.arrows[:60], names[:1], names), Machine(ring(others, "g", 1),
                                                                                                 others[:2], others)),
        ):
            machine = behind(one, other)
            self.assertLessEqual(len(machine.states), 40)
            for row in rows:
                self.assertEqual(price(machine, row), behind_price(one, other, row))

    def test_prices_of_99(self):
        dear, free = Machine([("p", "a", "p", 99)], ["p"], ["p"]), counter("a", "")
        self.assertEqual(price(either(dear, dear), "aaa"), 297)
        self.assertEqual(price(behind(dear, dear), "aaa"), 297)
        self.assertEqual(price(within(dear, dear), "aaa"), 297)
        self.assertEqual(price(summed(dear, free), "aaa"), 297)
        self.assertEqual(price(summed(free, dear), "aaa"), 297)
        self.assertEqual(price(turned(dear), "aaa"), 297)
        one = Machine([("p", "a", "p", 49)], ["p"], ["p"])
        other = Machine([("p", "a", "p", 50)], ["p"], ["p"])
        self.assertEqual(price(summed(one, other), "a" * 5000), 495000)


if __name__ == "__main__":
    unittest.main()
