"""Pieces: the machine of pieces, and how many pieces are enough."""

import copy
import itertools
import random
import unittest

from enoughpaid.building import turned
from enoughpaid.closures import bounded
from enoughpaid.greatest import greatest
from enoughpaid.known import capped, counter, gap, nested
from enoughpaid.machines import Machine
from enoughpaid.pieces import enough, pieces
from enoughpaid.prices import best, price
from helpers import random_machine, rows_up_to

LOOP = [("s", "a", "s", 3)]
NO_PIECES = [
    Machine([], [], []), Machine([], ["s"], ["e"]), Machine([], ["s"], ["s"]), Machine(LOOP, [], ["s"]),
    Machine(LOOP, ["s"], []), Machine([("s", "a", "t", 0)], ["t"], ["s"]),
]


def reader(rows):
    """Return a machine that reads some rows, and whatever else has one of its letters at each place."""
    arrows, ends = [], []
    for number, row in enumerate(rows):
        names = ["s" + "abcdefgh"[number] + "abcdefgh"[place] for place in range(len(row))]
        ends += names[-1:]
        arrows += [(state, letter, after, 0) for state, letter, after in zip(["start"] + names, row, names)]
    return Machine(arrows, ["start"], ends)


def fewest(machine, row):
    """Return the least number of pieces into which a row can be cut, None if it cannot, in the words of point 20."""
    found = [0]
    for end in range(1, len(row) + 1):
        numbers = [
            found[begin] + 1 for begin in range(end)
            if found[begin] is not None and price(machine, row[begin:end]) is not None
        ]
        found.append(min(numbers, default=None))
    return found[-1]


class PiecesTest(unittest.TestCase):
    def held_against_the_words(self, machine, rows):
        passed = copy.deepcopy(machine)
        made = pieces(machine)
        self.assertIsInstance(made, Machine)
        self.assertLessEqual(len(made.states), len(machine.states) + 1)
        for row in rows:
            self.assertEqual(price(made, row), fewest(machine, row), row)
        self.assertEqual(pieces(machine), made)
        self.assertEqual(machine, passed)

    def test_example_of_the_document(self):
        word = Machine([("s", "a", "s", 0), ("s", "b", "s", 0)], ["s"], ["s"])
        two = Machine([("s", "a", "t", 0), ("t", "a", "u", 0), ("u", "a", "v", 0)], ["s"], ["u", "v"])
        self.assertEqual(
            [enough(word), enough(two), price(pieces(two), "aaaaaaa"), price(pieces(two), "a")], [1, None, 3, None]
        )

    def test_held_against_the_words(self):
        chance = random.Random(61)
        rows = rows_up_to("ab", 6) + ["c", "abc", "a" * 12, "ab" * 6, "aab" * 4]
        for _ in range(60):
            self.held_against_the_words(random_machine(chance, ["p", "q", "r"][:chance.randrange(1, 4)], "ab"), rows)

    def test_known_machines(self):
        rows = rows_up_to("ab", 7) + ["abc", "cba", "baab" * 3]
        for machine in [gap("a", "b"), counter("ab", "a"), capped("ab", "b", 4), nested("ab"), turned(gap("b", "a"))]:
            self.held_against_the_words(machine, rows)

    def test_prices_of_the_machine_do_not_matter(self):
        for cost in (0, 1, 7, 99):
            machine = Machine([("s", "a", "t", cost), ("t", "b", "s", cost)], ["s"], ["s"])
            self.assertEqual([price(pieces(machine), "ab" * n) for n in range(4)], [0, 1, 1, 1])
            self.assertEqual(enough(machine), 1)

    def test_the_empty_row_is_one_of_no_pieces(self):
        for machine in NO_PIECES + [gap("a", "b"), counter("a", "a"), reader(["ab"])]:
            self.assertEqual(price(pieces(machine), ""), 0)

    def test_no_pieces(self):
        for machine in NO_PIECES:
            for row in ("a", "b", "aa", "aaa"):
                self.assertIsNone(price(pieces(machine), row))
            self.assertEqual(enough(machine), 0)
            self.assertLessEqual(len(pieces(machine).states), len(machine.states) + 1)

    def test_pieces_have_a_letter(self):
        # The machine reads the empty row, but it is no piece.
        machine = Machine([("s", "a", "t", 0)], ["s"], ["s", "t"])
        self.assertEqual([price(pieces(machine), "a" * n) for n in range(4)], [0, 1, 2, 3])
        self.assertIsNone(enough(machine))

    def test_names_that_are_taken(self):
        for names in (["a", "b", "c"], ["b", "a", "z"], ["cut", "hub", "a"], ["piece", "pieces", "start"]):
            first, second, third = names
            machine = Machine([(first, "a", second, 1), (second, "b", third, 2), (third, "a", third, 0)], [first], [third])
            self.held_against_the_words(machine, rows_up_to("ab", 7))
            self.assertEqual(len(best(pieces(machine), "abaab")), 6)

    def test_the_largest_machines(self):
        # 39 states and 95 arrows, each from a start to an end.
        names = ["".join(signs) for signs in itertools.product("abcdefgh", "abcde")][:39]
        pairs = list(itertools.product(names, "ab"))
        arrows = [(state, letter, names[(3 * at + 1) % 39], at % 2) for at, (state, letter) in enumerate(pairs)]
        arrows += [(state, "c", names[0], 1) for state in names[:17]]
        machine = Machine(arrows, names, names)
        self.assertEqual([len(machine.states), len(machine.arrows)], [39, 95])
        made = pieces(machine)
        self.assertLessEqual(len(made.states), 40)
        for row in ["", "a", "abab", "cc", "abcabc", "bbbbbb", "ccc", "d"]:
            self.assertEqual(price(made, row), fewest(machine, row))

    def test_parameters_by_name(self):
        self.assertEqual(pieces(machine=gap("a", "b")), pieces(gap("a", "b")))
        self.assertEqual(enough(machine=counter("a", "a")), 1)


class EnoughTest(unittest.TestCase):
    def test_by_hand(self):
        for machine, number in [
            (counter("ab", "a"), 1), (nested("ab"), 1), (reader(["a"]), None), (reader(["a", "aa"]), None),
            # Pieces one behind the other have two letters b, so they are a piece together.
            (gap("a", "b"), 1),
            # All rows that end in b.
            (Machine([("s", "a", "s", 0), ("s", "b", "s", 0), ("s", "b", "e", 0)], ["s"], ["e"]), 1),
            # The rows of letters a, and the rows of letters b: they may take turns.
            (Machine([("p", "a", "p", 1), ("q", "b", "q", 0)], ["p", "q"], ["p", "q"]), None),
            # The rows of a letter a and then letters b.
            (Machine([("s", "a", "t", 0), ("t", "b", "t", 0)], ["s"], ["t"]), None),
            # All rows of an odd length: an even one is cut into two.
            (Machine([("s", "a", "t", 0), ("s", "b", "t", 0), ("t", "a", "s", 0), ("t", "b", "s", 0)], ["s"], ["t"]), 2),
            # All rows of letters whose number leaves 1 when it is divided by 3.
            (Machine([("s", "a", "t", 0), ("t", "a", "u", 0), ("u", "a", "s", 0)], ["s"], ["t"]), 3),
            (Machine([("s", "a", "t", 0), ("t", "a", "u", 0), ("u", "a", "s", 0)], ["s"], ["t", "u"]), 2),
            # Rows that begin with a, and the row of one letter b: letters b ahead of the first a.
            (Machine([("s", "a", "t", 0), ("t", "a", "t", 0), ("t", "b", "t", 0), ("s", "b", "e", 0)], ["s"], ["t", "e"]), None),
        ]:
            passed = copy.deepcopy(machine)
            self.assertEqual(enough(machine), number)
            self.assertEqual(machine, passed)

    def test_held_against_all_short_rows(self):
        chance = random.Random(62)
        rows = rows_up_to("ab", 5)
        seen = set()
        for _ in range(300):
            machine = random_machine(chance, ["p", "q", "r"][:chance.randrange(1, 4)], chance.choice(["a", "ab"]))
            number = enough(machine)
            self.assertEqual(number is None, not bounded(pieces(machine)))
            seen.add(number)
            if number is not None:
                numbers = [fewest(machine, row) for row in rows]
                self.assertLessEqual(max(many for many in numbers if many is not None), number)
                row = greatest(pieces(machine))[1]
                self.assertEqual(fewest(machine, row), number)
        self.assertLessEqual({None, 0, 1, 2}, seen)


if __name__ == "__main__":
    unittest.main()
