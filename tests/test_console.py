import re
import unittest
from random import Random
from time import perf_counter

import search
from climbtickets.console import Console
from climbtickets.ends import EndsPlanner, reason_against
from definitions import climbs_between, excess, is_closed_part, is_row, pairs_of
from drawn import PICKED, drawn_pairs, small_desks
from samples import HUGE, STRANGE
from shown import desk_of, fewest_shown

# Commands that are right by their form.
RIGHT_FORMS = ["new", "put 0 5", "put 0 5 3 2", "take 0 5", "take 0 5 3 2", "undo", "walkers", "reason", "ends 0 5",
               "ends 5 0", "rounds", "count", "put 9999 0", "take 0 9999", "ends 31 31", "put" + " 0" * 82,
               "take" + " 0" * 82]

WRONG_NUMBERS = ["-1", "+1", "00", "01", "0000", "00005", "10000", "12345", "1" * 1000, "1.0", "1_0", "0x1", "x", "1\n",
                 "\n1", "\n", "1\t", "\t1", "\u0661", "\u00b2", "None", "True", "5,", "(5)"]


def numbers_of(pairs):
    return " ".join(f"{x} {y}" for x, y in pairs)


def put(pairs):
    return "put " + numbers_of(pairs)


def take(pairs):
    return "take " + numbers_of(pairs)


def console_of(pairs, changes=0):
    """A console with these tickets, and with so many further changes."""
    console = Console()
    commands = ["new"] + [put(pairs)] * bool(pairs) + ["put 0 5", "take 0 5"] * (changes // 2) + ["put 0 5"] * (changes % 2)
    for command in commands:
        if console.run(command) != "ok":
            raise AssertionError(f"{command} failed")
    return console


def look_of(console):
    """What the commands that change nothing tell."""
    questions = ["walkers", "reason", "rounds", "count"]
    questions += [f"ends {start} {end}" for start in (0, 5, 15, 30) for end in (0, 5, 15, 30)]
    return [console.run(question) for question in questions]


def expected_answer(pairs, command):
    """What a command that asks something tells of a small desk, by a search."""
    word, *numbers = command.split(" ")
    if word == "walkers":
        return str(search.fewest_rows(pairs))
    if word == "reason":
        return expected_reason(pairs)
    if word == "ends":
        return expected_effort(pairs, int(numbers[0]), int(numbers[1]))
    if word == "rounds":
        rounds = search.fewest_rounds(pairs)
        return "no" if rounds is None else str(rounds)
    return str(len(search.rows_with_all(pairs))) if len(pairs) <= 7 else "too long"


def expected_reason(pairs):
    if not pairs:
        return "none"
    if search.islands(pairs):
        return "island"
    return "gap" if max(excess(pairs)) > 0 else "one"


def expected_effort(pairs, start, end):
    if (start, end) in search.possible_ends(pairs):
        return str(search.least_effort(pairs, start, end))
    return "no gap" if min(climbs_between(pairs, start, end)) < 0 else "no part"


class ConsoleTestCase(unittest.TestCase):
    def assert_runs(self, console, *steps):
        """The console gives these results to these commands, one after the other."""
        for command, result in steps:
            found = console.run(command)
            self.assertIs(type(found), str)
            self.assertEqual(found, result, command if isinstance(command, str) else None)

    def assert_fails(self, console, command, result):
        """The command fails, and changes nothing that can be asked."""
        before = look_of(console)
        self.assert_runs(console, (command, result))
        self.assertEqual(look_of(console), before)


class CommandsTest(ConsoleTestCase):
    def test_a_session(self):
        console = Console()
        self.assert_runs(console, ("undo", "no desk"), ("new", "ok"), ("walkers", "0"), ("reason", "none"),
                         ("rounds", "0"), ("count", "1"), ("ends 3 5", "2"), ("ends 5 3", "no gap"),
                         ("put 0 5 3 2", "ok"), ("walkers", "2"), ("reason", "island"), ("ends 0 5", "no part"),
                         ("ends 3 2", "no gap"), ("rounds", "no"), ("count", "0"), ("put 5 0", "ok"), ("walkers", "1"),
                         ("reason", "one"), ("ends 0 0", "no part"), ("ends 0 2", "3"), ("ends 3 2", "no part"),
                         ("rounds", "2"), ("count", "2"), ("take 3 2", "ok"), ("rounds", "1"), ("undo", "ok"),
                         ("rounds", "2"), ("undo", "ok"), ("undo", "ok"), ("walkers", "0"), ("undo", "nothing to undo"))

    def test_new(self):
        console = console_of([(0, 5), (3, 2)])
        self.assert_runs(console, ("new", "ok"), ("walkers", "0"), ("undo", "nothing to undo"), ("count", "1"),
                         ("take 0 5", "missing"), ("put 4 4", "ok"), ("new", "ok"), ("walkers", "0"))

    def test_consoles_have_nothing_to_do_with_each_other(self):
        one, other = Console(), Console()
        self.assert_runs(one, ("new", "ok"), ("put 0 5", "ok"))
        self.assert_runs(other, ("walkers", "no desk"), ("new", "ok"), ("walkers", "0"))
        self.assert_runs(one, ("walkers", "1"))

    def test_reasons(self):
        for pairs, word in [([], "none"), ([(4, 4)], "one"), ([(9, 4)], "one"), ([(0, 5)], "gap"),
                            ([(0, 5)] * 3, "gap"), ([(0, 5), (3, 2)], "island"), ([(5, 0), (0, 5)], "one")]:
            self.assert_runs(console_of(pairs), ("reason", word))

    def test_the_parameter(self):
        self.assertEqual(Console().run(command="new"), "ok")

    def test_questions_against_the_search(self):
        for pairs in PICKED + small_desks("console", 60, most=5):
            console = console_of(pairs)
            for command in ["walkers", "reason", "rounds", "count"]:
                self.assert_runs(console, (command, expected_answer(pairs, command)))
            for start, end in drawn_pairs(Random(len(pairs)), 12, 0, 30) + drawn_pairs(Random(len(pairs)), 12, 0, 6):
                command = f"ends {start} {end}"
                self.assert_runs(console, (command, expected_answer(pairs, command)))

    def test_drawn_sessions(self):
        for seed in range(8):
            with self.subTest(seed):
                self.run_session(Random(f"session {seed}"))

    def run_session(self, random):
        console = Console()
        states = []
        for _ in range(150):
            command = self.draw_command(random, states)
            self.assert_runs(console, (command, expected_result(states, command)))
            if states and len(states[-1]) <= 5:
                self.assert_runs(console, ("walkers", expected_answer(states[-1], "walkers")))

    def draw_command(self, random, states):
        now = states[-1] if states else []
        word = random.choice(["put"] * 4 + ["take"] * 4 + ["undo"] * 3 + ["new", "walkers", "count", "ends", "ends"])
        if word == "new" and states and random.random() < 0.7:
            word = "take"
        if word == "put":
            return put(drawn_pairs(random, random.choice([1, 1, 2, 30]), 0, random.choice([4, 5, 32])))
        if word == "take":
            chosen = random.sample(now, random.randint(0, len(now))) or [(0, 5)]
            return take(chosen + [(30, 3)] if random.random() < 0.1 else chosen)
        return f"ends {random.randint(0, 31)} {random.randint(0, 31)}" if word == "ends" else word


def expected_result(states, command):
    """The result of a command that is right by its form; the list of the states since `new` goes on with it."""
    word, *words = command.split(" ")
    pairs = [(int(x), int(y)) for x, y in zip(words[::2], words[1::2])]
    if word == "new":
        states[:] = [[]]
        return "ok"
    if not states:
        return "no desk"
    if any(not 0 <= height <= 30 for pair in pairs for height in pair):
        return "bad number"
    if word == "undo":
        return expected_undo(states)
    if word in ("put", "take"):
        return expected_change(states, word, pairs)
    if len(states[-1]) > 5:
        return long_answer(states[-1], command)
    return expected_answer(states[-1], command)


def expected_undo(states):
    if len(states) == 1:
        return "nothing to undo"
    states.pop()
    return "ok"


def expected_change(states, word, pairs):
    left = list(states[-1])
    if len(pairs) > 40 or word == "put" and len(left) + len(pairs) > 40:
        return "too many tickets"
    for pair in pairs:
        if word == "put":
            left.append(pair)
        elif pair in left:
            left.remove(pair)
        else:
            return "missing"
    if len(states) == 61:
        return "too many changes"
    states.append(left)
    return "ok"


def long_answer(pairs, command):
    """The answer for a desk that is too large for the search."""
    word, *numbers = command.split(" ")
    if word == "walkers":
        return str(fewest_shown(pairs))
    if word == "count":
        return str(len(search.rows_with_all(pairs))) if len(pairs) <= 7 else "too long"
    start, end = int(numbers[0]), int(numbers[1])
    climbs = climbs_between(pairs, start, end)
    if min(climbs) < 0:
        return "no gap"
    reason = reason_against(desk_of(pairs), start, end)
    if reason is not None and is_closed_part(pairs, climbs, (start,), reason[1]):
        return "no part"
    row = pairs_of(EndsPlanner(start, end)(desk_of(pairs)))
    right = is_row(row) and sorted(row) == sorted(pairs) and start <= row[0][0] and row[-1][1] <= end
    return str(sum(climbs)) if right else "nothing shows the answer"


class BadCommandsTest(ConsoleTestCase):
    def assert_bad(self, command):
        for console in self.consoles:
            self.assert_runs(console, (command, "bad command"))

    def setUp(self):
        self.consoles = [Console(), console_of([]), console_of([(0, 5), (3, 2)]), console_of([(4, 4)] * 40)]
        self.looks = [look_of(console) for console in self.consoles]

    def tearDown(self):
        self.assertEqual([look_of(console) for console in self.consoles], self.looks)

    def test_values_that_are_no_texts(self):
        others = [("number", 5), ("huge", HUGE), ("bytes of a command", b"new"), ("tuple of a command", ("new",)),
                  ("list of words", ["put", "0", "5"]), ("command as a key", {"new": 0})]
        for title, value in STRANGE + others:
            with self.subTest(title):
                self.assert_bad(value)

    def test_words_that_are_not_in_the_table(self):
        for word in ["", "New", "NEW", "news", "ne", "new:", "old", "0", "5", "help", "desk", "plan", "log", "needed",
                     "copy", "desks", "puts", "Put", "walker", "end", "round", "counts", "effort", "exit", "__init__",
                     "run", "_live", "None", "~", "!", "new,undo", "new;"]:
            for numbers in ("", " 0", " 0 5", " 0 5 3 2"):
                self.assert_bad(word + numbers)

    def test_numbers_of_integers(self):
        for word in ["new", "undo", "walkers", "reason", "rounds", "count"]:
            for many in (1, 2, 3, 4):
                self.assert_bad(word + " 0" * many)
        for many in (0, 1, 3, 4, 5):
            self.assert_bad("ends" + " 0" * many)
        for word in ["put", "take"]:
            for many in (0, 1, 3, 5, 7, 79, 81, 83):
                self.assert_bad(word + " 0" * many)

    def test_integers(self):
        for number in WRONG_NUMBERS:
            for command in [f"put {number} 5", f"put 0 {number}", f"put 0 5 {number} 2", f"put 31 {number}",
                            f"take {number} 5", f"take 0 {number}", f"ends {number} 5", f"ends 0 {number}"]:
                with self.subTest(command):
                    self.assert_bad(command)

    def test_words_in_place_of_integers(self):
        for command in ["put put put", "ends s t", "put x y", "take 0 5 x y", "put 0 5 new", "new new", "undo undo"]:
            self.assert_bad(command)

    def test_spaces(self):
        for command in RIGHT_FORMS:
            for wrong in [" " + command, command + " ", command + "  ", "  " + command, " " + command + " "]:
                self.assert_bad(wrong)
            if " " in command:
                self.assert_bad(command.replace(" ", "  ", 1))
                self.assert_bad(command.replace(" ", "  "))
                self.assert_bad(command.replace(" ", ""))
                self.assert_bad(command.replace(" ", "\t"))
                self.assert_bad(command.replace(" ", "\u00a0"))
        for command in ["", " ", "  ", "   "]:
            self.assert_bad(command)

    def test_line_feeds(self):
        for command in RIGHT_FORMS:
            for wrong in [command + "\n", "\n" + command, command + "\nundo", "new\n" + command]:
                self.assert_bad(wrong)
            if " " in command:
                self.assert_bad(command.replace(" ", "\n", 1))
                self.assert_bad(command.replace(" ", "\n"))
                self.assert_bad(command.replace(" ", " \n", 1))
        for command in ["\n", "\n\n", "new\r", "\x0b"]:
            self.assert_bad(command)

    def test_long_texts_are_answered_quickly(self):
        before = perf_counter()
        for command in ["x" * 20000, " " * 20000, "put" + " 0" * 9999, "put " + "1" * 19990, "new" * 6666, "\n" * 20000]:
            self.assert_bad(command)
        self.assertLess(perf_counter() - before, 1)


class FailuresTest(ConsoleTestCase):
    def test_no_desk(self):
        console = Console()
        for command in RIGHT_FORMS[1:]:
            self.assert_runs(console, (command, "no desk"))
        for number in (31, 100, 9999):
            for command in (f"put {number} 0", f"take 0 {number}", f"ends {number} {number}"):
                self.assert_runs(console, (command, "no desk"))
        self.assert_runs(console, ("new", "ok"), ("undo", "nothing to undo"))

    def test_bad_numbers(self):
        for console in (console_of([]), console_of([(0, 5), (3, 2)]), console_of([(4, 4)] * 40), console_of([], 60)):
            for number in (31, 32, 40, 99, 100, 999, 1000, 9999):
                for command in (f"put {number} 0", f"put 0 {number}", f"put 4 4 {number} 0", f"put 4 4 0 {number}",
                                f"take {number} 0", f"take 0 {number}", f"take 9 9 {number} 0", f"take 4 4 0 {number}",
                                f"ends {number} 0", f"ends 0 {number}", f"ends {number} {number}",
                                "put" + " 0" * 81 + f" {number}", "take" + " 0" * 81 + f" {number}"):
                    self.assert_runs(console, (command, "bad number"))
            self.assert_fails(console, "put 4 4 31 0", "bad number")
            self.assert_fails(console, "take 4 4 31 0", "bad number")

    def test_heights_at_the_edges(self):
        self.assert_runs(console_of([]), ("put 0 30 30 0", "ok"), ("ends 0 30", "30"), ("ends 30 0", "no gap"),
                         ("take 30 0", "ok"), ("ends 0 30", "0"))

    def test_too_many_tickets(self):
        for many in (0, 1, 39, 40):
            console = console_of([(4, 4)] * many)
            self.assert_fails(console, put([(4, 4)] * (41 - many)), "too many tickets")
            self.assert_fails(console, put([(4, 4)] * 41), "too many tickets")
            self.assert_fails(console, take([(4, 4)] * 41), "too many tickets")
            if many < 40:
                self.assert_runs(console, (put([(4, 4)] * (40 - many)), "ok"))
            self.assert_fails(console, "put 4 4", "too many tickets")
            self.assert_runs(console, (take([(4, 4)] * 40), "ok"), ("walkers", "0"))

    def test_missing_tickets(self):
        console = console_of([(0, 5), (3, 2)])
        for command in ("take 5 0", "take 0 5 0 5", "take 0 5 9 9", "take 9 9 0 5", "take" + " 0 5" * 40):
            self.assert_fails(console, command, "missing")
        self.assert_fails(console_of([]), "take 0 5", "missing")
        self.assert_runs(console, ("take 3 2 0 5", "ok"), ("take 0 5", "missing"))

    def test_too_many_changes(self):
        console = console_of([], 60)
        for command in ("put 0 5", "put 0 5 0 5", put([(0, 5)] * 40)):
            self.assert_fails(console, command, "too many changes")
        # The other failures come ahead of it.
        self.assert_fails(console, "take 0 5", "missing")
        self.assert_fails(console, put([(0, 5)] * 41), "too many tickets")
        self.assert_fails(console, take([(0, 5)] * 41), "too many tickets")
        self.assert_runs(console, ("undo", "ok"))
        self.assert_fails(console, put([(0, 5)] * 40), "too many tickets")
        self.assert_runs(console, ("put 0 5", "ok"))
        self.assert_fails(console, "take 0 5", "too many changes")
        self.assert_fails(console, "take 0 5 0 5", "too many changes")
        for _ in range(60):
            self.assert_runs(console, ("undo", "ok"))
        self.assert_runs(console, ("undo", "nothing to undo"))

    def test_failed_commands_are_no_changes(self):
        console = console_of([(0, 5)], 57)
        for _ in range(3):
            self.assert_runs(console, ("take 9 9", "missing"), (put([(4, 4)] * 40), "too many tickets"),
                             ("put 31 0", "bad number"), ("put", "bad command"), ("walkers", "2"), ("count", "0"))
        self.assert_runs(console, ("put 1 1", "ok"), ("put 1 1", "ok"), ("put 1 1", "too many changes"))

    def test_nothing_to_undo(self):
        console = console_of([(0, 5)])
        self.assert_runs(console, ("undo", "ok"))
        for _ in range(3):
            self.assert_fails(console, "undo", "nothing to undo")

    def test_too_long(self):
        console = console_of([(9, height) for height in range(7)])
        self.assert_runs(console, ("count", "5040"), ("put 9 9", "ok"), ("count", "too long"), ("undo", "ok"),
                         ("count", "5040"))
        self.assert_runs(console_of([(4, 4)] * 40), ("count", "too long"))
        self.assert_runs(console_of([(4, 4)] * 7), ("count", "1"))
        self.assert_runs(console_of([(0, 30)] * 8), ("count", "too long"))

    def test_no_rounds(self):
        self.assert_runs(console_of([(0, 5)]), ("rounds", "no"), ("put 5 0", "ok"), ("rounds", "1"),
                         ("put 0 1", "ok"), ("rounds", "no"))


class ResultsTest(ConsoleTestCase):
    def test_results_of_large_desks(self):
        for pairs in ([(0, 30)] * 40, [(30, 0)] * 40, [(7, 7)] * 40, drawn_pairs(Random("large"), 40, 0, 30)):
            console = console_of(pairs)
            self.assert_runs(console, ("walkers", str(fewest_shown(pairs))), ("count", "too long"))
            self.assert_runs(console, ("ends 0 30", long_answer(pairs, "ends 0 30")))
            for word in ("walkers", "rounds"):
                self.assertRegex(console.run(word), re.compile(r"no|0|[1-9][0-9]?"))
        self.assert_runs(console_of([(30, 0)] * 40), ("ends 0 30", "1230"), ("ends 30 0", "1170"), ("rounds", "1"))
        self.assert_runs(console_of([(7, 7)] * 40), ("ends 0 30", "30"), ("rounds", "1"), ("walkers", "1"))

    def test_taking_the_first_equal_ticket(self):
        console = console_of([(4, 4), (2, 2), (4, 4)])
        self.assert_runs(console, ("take 4 4", "ok"), ("take 4 4", "ok"), ("take 4 4", "missing"), ("take 2 2", "ok"))


if __name__ == "__main__":
    unittest.main()
