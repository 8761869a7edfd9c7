"""The examples of the document, as they stand there."""

import doctest
import unittest

TICKETS = """
>>> from climbtickets.tickets import Row, Ticket
>>> row = Row(Ticket(0, 5), Ticket(5, 0)) + Ticket(3, 2)
>>> row.begin, row.end, row.climb, len(row), Ticket(3, 2) in row, row[1].x, 4 in Ticket(5, 0), Ticket(0, 5) < Ticket(3, 2)
(0, 2, 3, 3, True, 5, True, True)
"""

DESKS = """
>>> from climbtickets.desks import Desk, Profile
>>> from climbtickets.tickets import Ticket
>>> desk = Desk.of_pairs((0, 5), (5, 0)) + Ticket(3, 2)
>>> desk.excess.numbers[:5], desk.excess <= Profile.level(0), len(desk - Ticket(5, 0)), (desk + desk).excess == desk.excess + desk.excess
((0, 0, -1, 0, 0), True, 2, True)
"""

WALKERS = """
>>> from climbtickets.desks import Desk
>>> from climbtickets.walkers import Planner, fewest, reason_for
>>> desk = Desk.of_pairs((0, 5), (3, 2))
>>> fewest(desk), reason_for(desk)[0], len(Planner()(desk)), fewest(Desk.of_pairs((0, 5), (5, 0), (3, 2)))
(2, 'island', 2, 1)
"""

ENDS = """
>>> from climbtickets.desks import Desk
>>> from climbtickets.ends import EndsPlanner, RoundPlanner, reason_against
>>> desk = Desk.of_pairs((2, 0), (1, 3))
>>> EndsPlanner(2, 3).effort(desk), EndsPlanner(0, 3).effort(desk), reason_against(desk, 2, 2), len(RoundPlanner()(Desk.of_pairs((0, 5), (5, 0), (3, 2))))
(1, 3, ('gap', 2), 2)
"""

GROUPS = """
>>> from climbtickets.desks import Desk
>>> from climbtickets.groups import group_reason, group_trips
>>> desk = Desk.of_pairs((0, 5), (3, 2))
>>> trips = group_trips(desk, (0, 3), (2, 5))
>>> [trip.end for trip in trips], trips[1].climbed, group_reason(desk, (0, 3), (5, 2)), group_reason(desk, (0,), (5,))[0], group_reason(desk, (3,), (2,))[0]
([5, 2], 0, None, 'part', 'gap')
"""

TRIPS = """
>>> from climbtickets.groups import Trip
>>> from climbtickets.tickets import Row, Ticket
>>> first = Trip(1, Row(Ticket(2, 4)), 5)
>>> both = first + Trip(5, Row(Ticket(6, 0)), 0)
>>> both.climbed, len(both), both.end, Ticket(6, 0) in both, first < both, bool(Trip(0, Row(), 3))
(3, 2, 0, True, True, False)
"""

LISTING = """
>>> from climbtickets.desks import Desk
>>> from climbtickets.listing import count_rows, least_climb, rank_of_row, row_by_rank
>>> desk = Desk.of_pairs((0, 2), (2, 0), (1, 1))
>>> count_rows(desk), row_by_rank(desk, 0)[1].x, rank_of_row(desk, row_by_rank(desk, 1)), least_climb(desk)[0]
(2, 2, 1, 1)
"""

LIVE = """
>>> from climbtickets.live import PlannedDesk
>>> from climbtickets.tickets import Ticket
>>> live = PlannedDesk(Ticket(0, 5), Ticket(3, 2))
>>> before = live.walkers
>>> live.put(Ticket(5, 0))
>>> before, live.walkers, len(live.plan), Ticket(5, 0) in live, live.needed(Ticket(0, 1), Ticket(0, 1))
(2, 1, 1, True, 2)
"""

TABLES = r"""
>>> from climbtickets.desks import Desk
>>> from climbtickets.tables import excess_table, plan_table
>>> from climbtickets.walkers import Planner
>>> desk = Desk.of_pairs((3, 12), (12, 10))
>>> plan_table(Planner()(desk)), excess_table(Desk.of_pairs((9, 11), (11, 10)))
('  1:  3-12 12-10 climb    0', ' 9   +1\n10   +0')
"""

TEXTS = r"""
>>> from climbtickets.desks import Desk
>>> from climbtickets.texts import desk_text
>>> desk_text(Desk.of_pairs((0, 5), (3, 2)))
'desk 2\n0 5\n3 2'
"""

CONSOLE = """
>>> from climbtickets.console import Console
>>> console = Console()
>>> console.run("new"), console.run("put 0 5 3 2"), console.run("walkers"), console.run("ends 0 5"), console.run("reason")
('ok', 'ok', '2', 'no part', 'island')
"""


def failures_of(text):
    """How many examples of the text were tried, and what did not come out as it says."""
    example = doctest.DocTestParser().get_doctest(text, {}, "example", None, None)
    told = []
    results = doctest.DocTestRunner().run(example, out=told.append)
    return results.attempted, "".join(told)


class ExamplesTest(unittest.TestCase):
    def test_tickets(self):
        self.assertEqual(failures_of(TICKETS), (3, ""))

    def test_desks(self):
        self.assertEqual(failures_of(DESKS), (4, ""))

    def test_walkers(self):
        self.assertEqual(failures_of(WALKERS), (4, ""))

    def test_ends(self):
        self.assertEqual(failures_of(ENDS), (4, ""))

    def test_groups(self):
        self.assertEqual(failures_of(GROUPS), (5, ""))

    def test_trips(self):
        self.assertEqual(failures_of(TRIPS), (5, ""))

    def test_listing(self):
        self.assertEqual(failures_of(LISTING), (4, ""))

    def test_live(self):
        self.assertEqual(failures_of(LIVE), (6, ""))

    def test_tables(self):
        self.assertEqual(failures_of(TABLES), (5, ""))

    def test_texts(self):
        self.assertEqual(failures_of(TEXTS), (3, ""))

    def test_console(self):
        self.assertEqual(failures_of(CONSOLE), (3, ""))


if __name__ == "__main__":
    unittest.main()
