"""The texts of machines: `text()` and `Machine.parse`."""

import random
import unittest

from enoughpaid.errors import BadArrow, BadState, BadText, PaidError, TooMany
from enoughpaid.machines import Machine

TEXT = "start go wait\nend rest\ngo a wait 1\ngo b go 0\nwait a rest 12\nwait b go 99"
NAMES = [first + second for first in "abcdefgh" for second in "abcdefgh"]


def arrow_lines(count):
    """Return lines of different arrows of 40 states, in ascending order."""
    found = [f"{state} a {after} 1" for state in NAMES[:40] for after in NAMES[:40]]
    return found[:count]


def random_machine(chance):
    """Return a machine with a few arrows, starts and ends."""
    names = ["a", "b", "ab", "start", "end", "z"]
    arrows = [
        (chance.choice(names), chance.choice("abc"), chance.choice(names), chance.choice([0, 1, 9, 10, 99]))
        for _ in range(chance.randrange(12))
    ]
    starts = [name for name in names if chance.randrange(3) == 0]
    return Machine(arrows, starts, [name for name in names if chance.randrange(3) == 0])


class TextTest(unittest.TestCase):
    def test_example_of_the_document(self):
        self.assertEqual(Machine([("go", "a", "go", 1)], ["go"], ["go"]).text(), "start go\nend go\ngo a go 1")

    def test_order_in_and_between_the_lines(self):
        machine = Machine(
            [
                ("wait", "b", "go", 99), ("go", "b", "go", 0), ("wait", "a", "rest", 30), ("go", "a", "wait", 1),
                ("wait", "a", "rest", 12), ("go", "a", "wait", 1),
            ],
            ["wait", "go", "wait"],
            ["rest"],
        )
        self.assertEqual(machine.text(), TEXT)

    def test_no_starts_ends_or_arrows(self):
        self.assertEqual(Machine([], [], []).text(), "start\nend")
        self.assertEqual(Machine([], ["b", "a"], []).text(), "start a b\nend")
        self.assertEqual(Machine([("p", "a", "q", 10)], [], ["q"]).text(), "start\nend q\np a q 10")

    def test_arrows_are_ordered_as_tuples(self):
        machine = Machine([("ab", "a", "x", 1), ("a", "z", "x", 1), ("a", "b", "xy", 2), ("a", "b", "x", 30)], [], [])
        self.assertEqual(machine.text(), "start\nend\na b x 30\na b xy 2\na z x 1\nab a x 1")


class ParseTest(unittest.TestCase):
    def fails_at(self, line, text):
        with self.assertRaises(BadText) as caught:
            Machine.parse(text)
        self.assertIs(type(caught.exception), BadText, text)
        self.assertEqual(caught.exception.line, line, text)

    def test_parse(self):
        machine = Machine.parse(TEXT)
        self.assertIs(type(machine), Machine)
        self.assertEqual(machine.starts, ("go", "wait"))
        self.assertEqual(machine.ends, ("rest",))
        self.assertEqual(
            machine.arrows,
            (("go", "a", "wait", 1), ("go", "b", "go", 0), ("wait", "a", "rest", 12), ("wait", "b", "go", 99)),
        )
        self.assertEqual(machine, Machine.parse(text=TEXT))
        self.assertEqual(machine, machine.parse(TEXT))

    def test_text_and_back(self):
        chance = random.Random(1)
        for _ in range(300):
            machine = random_machine(chance)
            self.assertEqual(Machine.parse(machine.text()), machine)
            self.assertEqual(Machine.parse(machine.text()).text(), machine.text())

    def test_no_starts_ends_or_arrows(self):
        self.assertEqual(Machine.parse("start\nend"), Machine([], [], []))
        self.assertEqual(Machine.parse("start a\nend"), Machine([], ["a"], []))
        self.assertEqual(Machine.parse("start\nend\nstart a end 0"), Machine([("start", "a", "end", 0)], [], []))
        self.assertEqual(Machine.parse("start start\nend end start"), Machine([], ["start"], ["end", "start"]))

    def test_too_few_lines(self):
        self.fails_at(1, "")
        self.fails_at(2, "start")
        self.fails_at(2, "start go")
        self.fails_at(1, "end")
        self.fails_at(1, "go a go 1")
        self.fails_at(2, "start\n")
        self.fails_at(1, "\n")
        self.fails_at(1, "\nend")

    def test_lines_left_out(self):
        lines = TEXT.split("\n")
        for place in range(len(lines)):
            text = "\n".join(lines[:place] + lines[place + 1:])
            if place < 2:
                self.fails_at(place + 1, text)
            else:
                self.assertEqual(len(Machine.parse(text).arrows), len(lines) - 3)

    def test_lines_doubled(self):
        lines = TEXT.split("\n")
        for place in range(len(lines)):
            self.fails_at(place + 2, "\n".join(lines[:place + 1] + lines[place:]))

    def test_lines_exchanged(self):
        lines = TEXT.split("\n")
        for place in range(len(lines)):
            for other in range(place):
                mixed = list(lines)
                mixed[place], mixed[other] = mixed[other], mixed[place]
                # A later arrow is in order where an earlier one stood; what follows it is not.
                self.fails_at(other + 1 if other < 2 else other + 2, "\n".join(mixed))

    def test_empty_lines(self):
        lines = TEXT.split("\n")
        for place in range(len(lines) + 1):
            self.fails_at(place + 1, "\n".join(lines[:place] + [""] + lines[place:]))
        self.fails_at(3, "start\nend\n")

    def test_signs_put_in(self):
        for sign in "\n\t\rA-_.\u00e4\x0b\x0c\x1c\x85\u2028\u00a0\u0661":
            for place in range(len(TEXT) + 1):
                with self.assertRaises(BadText):
                    Machine.parse(TEXT[:place] + sign + TEXT[place:])

    def test_signs_put_in_or_left_out_give_no_other_text(self):
        for place in range(len(TEXT)):
            for put_in, left_out in (("", 1), ("a", 0), ("1", 0), ("0", 0), (" ", 0), ("z", 1), (" ", 1), ("\n", 1)):
                text = TEXT[:place] + put_in + TEXT[place + left_out:]
                try:
                    machine = Machine.parse(text)
                except BadText:
                    continue
                self.assertEqual(machine.text(), text)

    def test_spaces(self):
        for text, line in (
            (" start\nend", 1), ("start \nend", 1), ("start  a\nend", 1), ("start a \nend", 1), ("start\tx\nend", 1),
            ("start\nend ", 2), ("start\n end", 2), ("start\nend a  b", 2),
            ("start\nend\n a b c 1", 3), ("start\nend\na b c 1 ", 3), ("start\nend\na  b c 1", 3),
            ("start\nend\na b  c 1", 3), ("start\nend\na b c  1", 3), ("start\nend\na b c\t1", 3),
            ("start\nend\na b c 1\r", 3), ("start\r\nend", 1), ("start\rend", 1),
        ):
            self.fails_at(line, text)

    def test_first_words(self):
        for text, line in (
            ("Start\nend", 1), ("starts\nend", 1), ("a\nend", 1), ("end\nstart", 1), ("end\nend", 1),
            ("start\nEnd", 2), ("start\nends", 2), ("start\nstart", 2), ("start\na b c 1", 2),
        ):
            self.fails_at(line, text)

    def test_starts_and_ends_in_order(self):
        self.assertEqual(Machine.parse("start a ab b\nend c d").starts, ("a", "ab", "b"))
        for text, line in (
            ("start b a\nend", 1), ("start a a\nend", 1), ("start a c b\nend", 1), ("start ab a\nend", 1),
            ("start a\nend b a", 2), ("start a\nend b b", 2), ("start a\nend a b a", 2),
        ):
            self.fails_at(line, text)

    def test_wrong_names(self):
        for name in ("A", "a1", "abcdefghi", "1", "-", "\u00e4", "\uff41"):
            self.fails_at(1, f"start {name}\nend")
            self.fails_at(2, f"start\nend a {name}")
            self.fails_at(3, f"start\nend\n{name} a b 1")
            self.fails_at(3, f"start\nend\na b {name} 1")
            self.fails_at(3, f"start\nend\na {name} b 1")
        self.fails_at(3, "start\nend\na bc d 1")
        self.assertEqual(Machine.parse("start abcdefgh\nend").starts, ("abcdefgh",))

    def test_wrong_numbers(self):
        for word in (
            "", "-1", "+1", "01", "00", "-0", "007", "100", "999", "1.0", "1e1", "0x1", "1_0", "one", "a", "\u00b2",
            "\u0661", "\uff11", "9" * 10000, "0" * 10000,
        ):
            self.fails_at(3, f"start\nend\na b c {word}")
        for cost in range(100):
            self.assertEqual(Machine.parse(f"start\nend\na b c {cost}").arrows, (("a", "b", "c", cost),))

    def test_wrong_number_of_words(self):
        for line in ("a", "a b", "a b c", "a b c d", "a b 1", "a b c 1 2", "a b c d 1", "1", "1 1 1 1"):
            self.fails_at(3, "start\nend\n" + line)

    def test_arrows_in_order(self):
        good = "start\nend\nb b b 5\n"
        for line in ("a z z 9", "b a z 9", "b b a 9", "b b b 5", "b b b 4", "b b b 6", "b b b 10"):
            self.fails_at(4, good + line)
        for line in ("b b c 1", "b c a 1", "c a a 1", "ba a a 1"):
            self.assertEqual(len(Machine.parse(good + line).arrows), 2)

    def test_first_wrong_line_counts(self):
        self.fails_at(1, "start b a\nends\nx")
        self.fails_at(2, "start\nend b a\nx")
        self.fails_at(3, "start\nend\nx\ny")
        self.fails_at(4, "start\nend\nb a b 1\na a a 1\nx")

    def test_400_and_401_arrows(self):
        head = ["start", "end"]
        self.assertEqual(len(Machine.parse("\n".join(head + arrow_lines(400))).arrows), 400)
        self.fails_at(403, "\n".join(head + arrow_lines(401)))
        self.fails_at(403, "\n".join(head + arrow_lines(450)))
        self.fails_at(403, "\n".join(head + arrow_lines(400) + ["wrong"]))
        self.fails_at(402, "\n".join(head + arrow_lines(399) + ["wrong"] + arrow_lines(1)))

    def test_40_and_41_states(self):
        self.assertEqual(len(Machine.parse("start " + " ".join(NAMES[:40]) + "\nend").states), 40)
        for text in (
            "start " + " ".join(NAMES[:41]) + "\nend",
            "start " + " ".join(NAMES[:40]) + "\nend " + NAMES[40],
            "start\nend " + " ".join(NAMES[:40]) + "\naa a zz 1",
        ):
            with self.assertRaises(TooMany) as caught:
                Machine.parse(text)
            self.assertEqual(caught.exception.count, 41)
        self.fails_at(3, "start " + " ".join(NAMES[:41]) + "\nend\nwrong")

    def test_no_other_error(self):
        chance = random.Random(2)
        for _ in range(2000):
            signs = [chance.choice("ab 1\n") for _ in range(chance.randrange(8))]
            try:
                Machine.parse("start\nend\na a a 1" + "".join(signs))
            except PaidError as error:
                self.assertNotIsInstance(error, (BadArrow, BadState))


if __name__ == "__main__":
    unittest.main()
