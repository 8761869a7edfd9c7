"""The examples of the document, as they stand there."""

import doctest
import unittest

TICKETS = """
>>> from climbtickets.tickets import Row, Ticket
>>> row = Row(Ticket(0, 5), Ticket(5, 0)) + Ticket(3, 2)
>>> row.begin, row.end, row.climb, len(row), Ticket(3, 2) in row, row[1].x, 4 in Ticket(5, 0), Ticket(0, 5) < Ticket(3, 2)
(0, 2, 3, 3, True, 5, True, True)
"""

DESKS = """
>>> from climbtickets.desks import Desk, Profile
>>> from climbtickets.tickets import Ticket
>>> desk = Desk.of_pairs((0, 5), (5, 0)) + Ticket(3, 2)
>>> desk.excess.numbers[:5], desk.excess <= Profile.level(0), len(desk - Ticket(5, 0)), (desk + desk).excess == desk.excess + desk.excess
((0, 0, -1, 0, 0), True, 2, True)
"""


def failures_of(text):
    """How many examples of the text were tried, and what did not come out as it says."""
    example = doctest.DocTestParser().get_doctest(text, {}, "example", None, None)
    told = []
    results = doctest.DocTestRunner().run(example, out=told.append)
    return results.attempted, "".join(told)


class ExamplesTest(unittest.TestCase):
    def test_tickets(self):
        self.assertEqual(failures_of(TICKETS), (3, ""))

    def test_desks(self):
        self.assertEqual(failures_of(DESKS), (4, ""))


if __name__ == "__main__":
    unittest.main()
