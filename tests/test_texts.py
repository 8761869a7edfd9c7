import re
import unittest
from random import Random
from time import perf_counter

from climbtickets.desks import Desk
from climbtickets.errors import ParseError
from climbtickets.texts import desk_text, read_desk
from drawn import PICKED, drawn_pairs, large_desks, small_desks
from samples import HUGE, STRANGE
from shown import desk_of

# A text that is right, and to which the tests add a fault.
LINES = ["desk 3", "0 5", "30 0", "12 12"]

WRONG_NUMBERS = ["-1", "+1", "00", "01", "007", "0000", "00005", "00000", "1.", "1.0", "1e1", "0x1", "1_0", "a", "O",
                 "12345", "99999", "1" * 1000, "-0", "--1", "1-", "(1)", "'1'", "1,", "five", "desk", "\t1", "1\t", "1\r",
                 "\u0661", "\u00b2", "1\u00a0", "\u20051", "\x0b1", "1\x1f", "None", "True", "~", "!", "=1"]


def first_fault(text):
    """The line and the word of the first fault of a text, or None."""
    lines = text.split("\n")
    many = 0
    number = 1
    while number <= many + 1:
        if number > len(lines):
            return (number, 1)
        allowed = [r"desk", r"\d|[123]\d|40"] if number == 1 else [r"\d|[12]\d|30"] * 2
        spot = fault_in(lines[number - 1], allowed)
        if spot is not None:
            return (number, spot)
        if number == 1:
            many = int(lines[0][5:])
        number += 1
    if len(lines) > many + 1:
        return (number, 0 if is_badly_separated(lines[many + 1]) else 1)
    return None


def is_badly_separated(line):
    return re.fullmatch(r"[^ ]+( [^ ]+)*", line, re.DOTALL) is None


def fault_in(line, allowed):
    """The number of the first wrong word of a line of these words, or None."""
    if is_badly_separated(line):
        return 0
    words = re.findall(r"[^ ]+", line)
    for spot, form in enumerate(allowed, start=1):
        if spot > len(words) or not re.fullmatch(form, words[spot - 1], re.ASCII):
            return spot
    return len(allowed) + 1 if len(words) > len(allowed) else None


class TextsTestCase(unittest.TestCase):
    def assert_fault(self, text, line, word):
        with self.assertRaises(ParseError) as caught:
            read_desk(text)
        self.assertIs(type(caught.exception), ParseError)
        self.assertEqual((caught.exception.line, caught.exception.word), (line, word))
        self.assertIs(type(caught.exception.line), int)
        self.assertIs(type(caught.exception.word), int)

    def assert_fault_of(self, lines, line, word):
        self.assert_fault("\n".join(lines), line, word)
        self.assertEqual(first_fault("\n".join(lines)), (line, word))


class DeskTextTest(TextsTestCase):
    def test_picked_desks(self):
        for pairs, text in [([], "desk 0"), ([(0, 5), (3, 2)], "desk 2\n0 5\n3 2"), ([(30, 0)], "desk 1\n30 0"),
                            ([(7, 7)] * 3, "desk 3\n7 7\n7 7\n7 7"), ([(10, 20)] * 40, "desk 40" + "\n10 20" * 40)]:
            found = desk_text(desk=desk_of(pairs))
            self.assertIs(type(found), str)
            self.assertEqual(found, text)
            self.assertEqual(read_desk(text=text), desk_of(pairs))

    def test_texts_that_are_read_again(self):
        for pairs in PICKED + small_desks("texts", 100) + large_desks("texts", 30):
            desk = desk_of(pairs)
            text = desk_text(desk)
            self.assertEqual(text, "\n".join([f"desk {len(pairs)}"] + [f"{x} {y}" for x, y in pairs]))
            self.assertIsNone(first_fault(text))
            again = read_desk(text)
            self.assertIs(type(again), Desk)
            self.assertEqual(again, desk)
            self.assertEqual(desk_text(again), text)
            self.assertEqual(desk, desk_of(pairs))

    def test_every_number_of_tickets(self):
        for many in range(41):
            pairs = drawn_pairs(Random(many), many, 0, 30)
            self.assertEqual(read_desk(desk_text(desk_of(pairs))), desk_of(pairs))

    def test_every_height(self):
        for height in range(31):
            text = f"desk 2\n{height} 0\n30 {height}"
            self.assertEqual(read_desk(text), desk_of([(height, 0), (30, height)]))
            self.assertEqual(desk_text(read_desk(text)), text)


class ReadDeskTest(TextsTestCase):
    def test_values_that_are_no_strings(self):
        for title, value in STRANGE + [("number", 5), ("huge", HUGE), ("lines", tuple(LINES)), ("desk", Desk()),
                                       ("bytes of a text", b"desk 0")]:
            if not isinstance(value, str):
                with self.subTest(title):
                    self.assert_fault(value, 0, 0)

    def test_first_words(self):
        for word in ["Desk", "DESK", "desk:", "des", "desks", "disk", "0", "\tdesk", "desk\t", "desk\r", "2"]:
            self.assert_fault_of([f"{word} 0"], 1, 1)
            self.assert_fault_of([word], 1, 1)
            self.assert_fault_of([f"{word} x y"], 1, 1)
        self.assert_fault_of(["desk"], 1, 2)
        self.assert_fault_of(["desk", "0 5"], 1, 2)
        self.assert_fault_of(["desk 1 0 5"], 1, 3)
        self.assert_fault_of(["desk 0 0"], 1, 3)
        self.assert_fault_of(["desk 0 desk"], 1, 3)

    def test_numbers_of_tickets(self):
        for many in ["41", "42", "99", "100", "400", "9999"] + WRONG_NUMBERS:
            with self.subTest(many):
                self.assert_fault_of([f"desk {many}"], 1, 2)
                self.assert_fault_of([f"desk {many}", "0 5"], 1, 2)
                self.assert_fault_of([f"desk {many} more"], 1, 2)
        self.assert_fault_of(["desk 41"] + ["0 5"] * 41, 1, 2)
        self.assert_fault_of(["desk 040"] + ["0 5"] * 40, 1, 2)

    def test_heights(self):
        for height in ["31", "32", "40", "99", "300", "3000"] + WRONG_NUMBERS:
            for spot in (1, 2, 3):
                with self.subTest(height=height, spot=spot):
                    x, y = LINES[spot].split(" ")
                    self.assert_fault_of(LINES[:spot] + [f"{height} {y}"] + LINES[spot + 1:], spot + 1, 1)
                    self.assert_fault_of(LINES[:spot] + [f"{x} {height}"] + LINES[spot + 1:], spot + 1, 2)
                    self.assert_fault_of(LINES[:spot] + [f"{height} {height}"] + LINES[spot + 1:], spot + 1, 1)
                    self.assert_fault_of(LINES[:spot] + [f"{height}"] + LINES[spot + 1:], spot + 1, 1)
                    self.assert_fault_of(LINES[:spot] + [f"{x} {height} 0"] + LINES[spot + 1:], spot + 1, 2)
                    self.assert_fault_of(LINES[:spot] + [f"{x} {y} {height}"] + LINES[spot + 1:], spot + 1, 3)

    def test_words_too_few_or_too_many(self):
        for spot in (1, 2, 3):
            x, y = LINES[spot].split(" ")
            self.assert_fault_of(LINES[:spot] + [x] + LINES[spot + 1:], spot + 1, 2)
            self.assert_fault_of(LINES[:spot] + [x], spot + 1, 2)
            self.assert_fault_of(LINES[:spot] + [f"{x} {y} 5"] + LINES[spot + 1:], spot + 1, 3)
            self.assert_fault_of(LINES[:spot] + [f"{x} {y} 5 5 5 5"] + LINES[spot + 1:], spot + 1, 3)

    def test_spaces(self):
        for spot in range(4):
            line = LINES[spot]
            for wrong in ["", " ", "  ", " " + line, line + " ", line.replace(" ", "  "), line + " 5 ", " x", "x ", "x  y",
                          "x y  z", " " + line + " ", "x" * 50 + "  ", "   "]:
                with self.subTest(spot=spot, wrong=wrong):
                    self.assert_fault_of(LINES[:spot] + [wrong] + LINES[spot + 1:], spot + 1, 0)

    def test_missing_lines(self):
        for spot in (1, 2, 3):
            self.assert_fault_of(LINES[:spot], spot + 1, 1)
        self.assert_fault_of(["desk 40"] + ["0 5"] * 39, 41, 1)
        self.assert_fault_of(["desk 1"], 2, 1)

    def test_lines_after_the_last_ticket(self):
        for lines in (LINES, ["desk 0"], ["desk 40"] + ["0 5"] * 40):
            after = len(lines) + 1
            for wrong in ("", " ", "0 5 ", " 0 5", "0  5", "x  ", "   "):
                self.assert_fault_of(lines + [wrong], after, 0)
                self.assert_fault_of(lines + [wrong, "0 5"], after, 0)
            for wrong in ("0 5", "x", "0", "desk 0", "1 2 3 4", "99 99", "\t", "0\t5"):
                self.assert_fault_of(lines + [wrong], after, 1)
                self.assert_fault_of(lines + [wrong, ""], after, 1)
                self.assert_fault_of(lines + [wrong, "  ", " "], after, 1)

    def test_line_feeds(self):
        text = "\n".join(LINES)
        self.assert_fault("", 1, 0)
        self.assert_fault("\n", 1, 0)
        self.assert_fault("\n" + text, 1, 0)
        self.assert_fault(text + "\n", 5, 0)
        self.assert_fault("desk 0\n", 2, 0)
        self.assert_fault("desk 1\n", 2, 0)
        self.assert_fault("desk\n3\n0 5\n30 0\n12 12", 1, 2)
        self.assert_fault("desk 3\n0\n5\n30 0\n12 12", 2, 2)
        self.assert_fault(text.replace("\n", "\n\n", 1), 2, 0)
        self.assert_fault(text.replace("\n", "\r\n"), 1, 2)
        self.assert_fault(text.replace("\n", "\r"), 1, 2)
        self.assert_fault(text.replace("\n", " "), 1, 3)
        self.assert_fault(text.replace("\n", "\x0b"), 1, 2)
        self.assert_fault(text.replace("\n", "\u2028"), 1, 2)
        self.assert_fault(text.replace(" ", "\n"), 1, 2)

    def test_the_first_fault_is_named(self):
        self.assert_fault_of(["desk 3", "0 31", "x 5", ""], 2, 2)
        self.assert_fault_of(["desk 3", "0 5", "x 31"], 3, 1)
        self.assert_fault_of(["desk 3", "0 5", "0 5 0", " "], 3, 3)
        self.assert_fault_of(["desk 41", ""], 1, 2)
        self.assert_fault_of(["desk 2", "0 5", "", "0 5", "0 5"], 3, 0)
        self.assert_fault_of(["desk 1", "0 5", "0 5", "  "], 3, 1)

    def test_drawn_faults(self):
        random = Random("faults")
        found = set()
        for _ in range(6000):
            pairs = drawn_pairs(random, random.choice([0, 1, 2, 3, 5]), 0, 30)
            text = with_fault(random, with_fault(random, desk_text(desk_of(pairs))))
            fault = first_fault(text)
            if fault is None:
                self.assertEqual(desk_text(read_desk(text)), text)
            else:
                self.assert_fault(text, *fault)
                found.add(fault)
        self.assertGreater(len(found), 15)

    def test_long_texts_are_answered_quickly(self):
        before = perf_counter()
        self.assert_fault("x" * 20000, 1, 1)
        self.assert_fault("desk " + "1" * 20000, 1, 2)
        self.assert_fault("desk 0" + "\n0 5" * 5000, 2, 1)
        self.assert_fault("desk 0" + " 5" * 9000, 1, 3)
        self.assert_fault("\n" * 20000, 1, 0)
        self.assert_fault(" " * 20000, 1, 0)
        self.assertLess(perf_counter() - before, 0.5)


def with_fault(random, text):
    """The text with a sign, a word or a line more, less or other; it may be right, too."""
    spot = random.randint(0, len(text))
    kind = random.randint(0, 4)
    if kind == 0:
        return text[:spot] + random.choice(" \n0123459-+xd") + text[spot:]
    if kind == 1:
        return text[:spot] + text[spot + 1:]
    if kind == 2:
        return text[:spot] + random.choice(" \n0359-x") + text[spot + 1:]
    lines = text.split("\n")
    place = random.randrange(len(lines))
    if kind == 3:
        lines[place:place + 1] = random.choice([[], [lines[place]] * 2, [""], ["0 5", lines[place]]])
    else:
        words = lines[place].split(" ")
        spot = random.randrange(len(words))
        words[spot:spot + 1] = random.choice([[], [words[spot]] * 2, ["40"], ["31"], ["desk"], ["1"], ["2"], ["00"]])
        lines[place] = " ".join(words)
    return "\n".join(lines)


if __name__ == "__main__":
    unittest.main()
