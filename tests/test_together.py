"""What the document promises over the whole program: its parts agree about the same desk."""

import unittest
from random import Random

from climbtickets.console import Console
from climbtickets.desks import Desk
from climbtickets.ends import EndsPlanner, RoundPlanner, reason_against
from climbtickets.errors import LimitExceeded, NoRounds, NoRow, TooFew, TooMany
from climbtickets.groups import check_group_reason, group_reason, group_trips
from climbtickets.listing import count_rows, least_climb, rank_of_row, row_by_rank, single_rows
from climbtickets.live import LiveDesk, PlannedDesk
from climbtickets.plans import Plan, is_round
from climbtickets.tables import excess_table, plan_table
from climbtickets.texts import desk_text, read_desk
from climbtickets.tickets import Row, Ticket
from climbtickets.walkers import Planner, check_reason, fewest, reason_for
from definitions import pairs_of, total_rise
from drawn import PICKED, balanced, drawn_pairs, large_desks, small_desks, some_heights
from shown import desk_of, fewest_shown


def tickets_of(pairs):
    return [Ticket(x, y) for x, y in pairs]


def numbers_of(tickets):
    return "".join(f" {ticket.x} {ticket.y}" for ticket in tickets)


def rounds_of(desk):
    try:
        return len(RoundPlanner()(desk))
    except NoRounds:
        return None


def effort_of(desk, begin, end):
    """The effort of one walker, or why there is no such walker."""
    try:
        return str(EndsPlanner(begin, end).effort(desk))
    except NoRow as error:
        return "no " + error.reason[0]


def count_of(desk):
    try:
        return str(count_rows(desk))
    except LimitExceeded:
        return "too long"


class AgreeTest(unittest.TestCase):
    """All parts about one desk."""

    def test_plans_and_reasons(self):
        for pairs in small_desks("agree", 60) + large_desks("agree", 25):
            desk = desk_of(pairs)
            number = fewest_shown(pairs)
            self.assertEqual(fewest(desk), number)
            self.assertEqual(check_reason(desk, reason_for(desk)), number)
            for walkers in {0, number - 1, number, (number + len(pairs)) // 2, len(pairs), len(pairs) + 1, 40}:
                if 0 <= walkers <= 40:
                    self.assert_planned(desk, number, walkers)

    def assert_planned(self, desk, number, walkers):
        """There is a plan of so many rows if and only if it is from the fewest to the number of tickets."""
        try:
            plan = Planner(walkers=walkers)(desk)
        except TooFew as error:
            self.assertLess(walkers, number)
            self.assertEqual(check_reason(desk, error.reason), number)
        except TooMany as error:
            self.assertGreater(walkers, len(desk))
            self.assertEqual(error.limit, len(desk))
        else:
            self.assertEqual(len(plan), walkers)
            self.assertTrue(Plan.is_plan(desk, *plan.rows))
            self.assertEqual(plan.climb, sum(row.climb for row in plan.rows))
            self.assertEqual(len(plan_table(plan).split("\n")) if walkers else plan_table(plan), walkers or "")

    def test_single_rows(self):
        for pairs in small_desks("agree rows", 60):
            desk = desk_of(pairs)
            rows = list(single_rows(desk))
            self.assertEqual(fewest(desk) <= 1, len(rows) > 0)
            self.assertEqual(count_rows(desk), len(rows))
            ends = {(row.begin, row.end) for row in rows}
            for begin, end in [(0, 30), (30, 0), (5, 5), (0, 5), *drawn_pairs(Random(len(rows)), 6, 0, 30)]:
                if pairs:
                    possible = any(begin <= first and last <= end for first, last in ends)
                    self.assertEqual(reason_against(desk, begin, end) is None, possible)
                    self.assertEqual(group_reason(desk, (begin,), (end,)) is None, possible)
            if rows:
                self.assertEqual(least_climb(desk)[0], min(row.climb for row in rows))
                self.assertIn(least_climb(desk)[1].tickets, [row.tickets for row in rows])
                self.assertEqual(row_by_rank(desk, rank_of_row(desk, rows[-1])), rows[-1])
            for row in rows:
                self.assertEqual(row.climb, row.end - row.begin - total_rise(pairs) if row else 0)

    def test_one_walker_and_groups(self):
        random = Random("agree ends")
        for pairs in PICKED + small_desks("agree ends", 40) + large_desks("agree ends", 15):
            desk = desk_of(pairs)
            for begin, end in [(0, 30), (30, 0), *drawn_pairs(random, 4, 0, 30)]:
                effort = effort_of(desk, begin, end)
                reason = group_reason(desk, (begin,), (end,))
                if reason is None:
                    trips = group_trips(desk, (begin,), (end,))
                    self.assertEqual(str(trips[0].climbed), effort)
                    self.assertEqual(trips[0].climbed, end - begin - total_rise(pairs))
                else:
                    self.assertEqual("no " + reason[0], effort)

    def test_groups_of_fewest_walkers(self):
        for pairs in small_desks("agree groups", 40) + large_desks("agree groups", 15):
            desk = desk_of(pairs)
            number = fewest(desk)
            if number:
                # Walkers who begin at the bottom and end at the top use the rows of a plan.
                self.assertIsNone(group_reason(desk, (0,) * number, (30,) * number))
            if number > 1:
                reason = group_reason(desk, (0,) * (number - 1), (30,) * (number - 1))
                self.assertEqual(check_group_reason(desk, (0,) * (number - 1), (30,) * (number - 1), reason), reason[0])

    def test_rounds(self):
        for pairs in small_desks("agree rounds", 60) + [balanced(Random(many), many) for many in range(1, 41)]:
            desk = desk_of(pairs)
            self.assertEqual(rounds_of(desk) is not None, desk.excess.peak <= 0)
            if rounds_of(desk) is not None:
                rows = RoundPlanner()(desk).rows
                self.assertTrue(all(is_round(row) for row in rows))
                if len(rows) <= 1:
                    self.assertLessEqual(fewest(desk), 1)
                for row in rows:
                    self.assertIsNone(reason_against(Desk(*row.tickets), row.begin, row.begin))


class SameDeskTest(unittest.TestCase):
    """One desk as a text, a live desk, a planned desk and in a console, with the same changes."""

    def setUp(self):
        self.live, self.planned, self.console = LiveDesk(), PlannedDesk(), Console()
        self.assertEqual(self.console.run("new"), "ok")
        self.texts = [desk_text(Desk())]

    def assert_agree(self):
        desk = read_desk(self.texts[-1])
        for live in (self.live, self.planned):
            self.assertEqual(live.desk, desk)
            self.assertEqual(desk_text(live.desk), self.texts[-1])
            self.assertEqual((len(live), bool(live), live.walkers), (len(desk), bool(desk), fewest(desk)))
            self.assertEqual([desk_text(each) for each in live.desks()], self.texts)
        self.assertEqual(self.live.log, self.planned.log)
        self.assertEqual((self.planned.plan.desk, len(self.planned.plan)), (desk, fewest(desk)))
        rounds = rounds_of(desk)
        for command, result in [("walkers", str(fewest(desk))), ("reason", reason_for(desk)[0]),
                                ("rounds", "no" if rounds is None else str(rounds)), ("count", count_of(desk)),
                                ("ends 0 30", effort_of(desk, 0, 30)), ("ends 30 0", effort_of(desk, 30, 0)),
                                ("ends 2 2", effort_of(desk, 2, 2)), ("ends 1 4", effort_of(desk, 1, 4))]:
            self.assertEqual(self.console.run(command), result)

    def put_all(self, tickets):
        desk = read_desk(self.texts[-1]) + Desk(*tickets)
        self.assertEqual([live.needed(*tickets) for live in (self.live, self.planned)], [fewest(desk)] * 2)
        self.live.put(*tickets)
        self.planned.put(*tickets)
        self.assertEqual(self.console.run("put" + numbers_of(tickets)), "ok")
        self.texts.append(desk_text(desk))

    def take_all(self, tickets):
        desk = read_desk(self.texts[-1])
        for ticket in tickets:
            desk = desk - ticket
        self.live.take(*tickets)
        self.planned.take(*tickets)
        self.assertEqual(self.console.run("take" + numbers_of(tickets)), "ok")
        self.texts.append(desk_text(desk))

    def undo_all(self):
        self.live.undo()
        self.planned.undo()
        self.assertEqual(self.console.run("undo"), "ok")
        self.texts.pop()

    def change(self, random, heights):
        tickets = self.live.desk.tickets
        if tickets and (len(tickets) > 36 or random.random() < 0.4):
            self.take_all(random.sample(tickets, random.randint(1, min(4, len(tickets)))))
        else:
            self.put_all(tickets_of(drawn_pairs(random, random.randint(1, 4), 0, heights)))

    def test_changes_and_undoing(self):
        for heights in (3, 6, 30):
            random = Random(heights)
            self.setUp()
            for _ in range(60):
                self.change(random, heights)
                self.assert_agree()
            self.assertEqual(self.console.run("put 1 1"), "too many changes")
            for _ in range(25):
                self.undo_all()
                self.assert_agree()
            for _ in range(10):
                self.change(random, heights)
                self.assert_agree()
            while len(self.texts) > 1:
                self.undo_all()
                self.assert_agree()
            self.assertEqual(self.console.run("undo"), "nothing to undo")


class UpsideDownTest(unittest.TestCase):
    def turned_rows(self, plan):
        return [row.turned() for row in plan.rows]

    def test_plans_rounds_and_live_desks(self):
        for pairs in small_desks("turned", 60) + large_desks("turned", 20):
            desk = desk_of(pairs)
            turned = desk.turned()
            self.assertEqual(turned.turned(), desk)
            self.assertEqual(turned.excess, desk.excess.turned())
            self.assertEqual(fewest(turned), fewest(desk))
            self.assertEqual(rounds_of(turned), rounds_of(desk))
            plan = Planner()(desk)
            self.assertTrue(Plan.is_plan(turned, *self.turned_rows(plan)))
            self.assertEqual(Plan(turned, *self.turned_rows(plan)).climb, plan.climb)
            live = PlannedDesk(*turned.tickets)
            self.assertEqual((live.walkers, len(live.plan)), (len(plan), len(plan)))
            self.assertEqual(live.needed(*turned.tickets[:1]) if len(desk) < 40 else 0,
                             fewest(desk + Desk(*desk.tickets[:1])) if len(desk) < 40 else 0)
            self.assertEqual(read_desk(desk_text(turned)).turned(), desk)

    def test_ends_and_groups(self):
        random = Random("turned groups")
        for pairs in small_desks("turned groups", 40) + large_desks("turned groups", 10):
            desk = desk_of(pairs)
            for many in (1, 1, 2, 3):
                starts, ends = some_heights(random, many), some_heights(random, many)
                above, below = tuple(30 - end for end in ends), tuple(30 - start for start in starts)
                one, other = group_reason(desk, starts, ends), group_reason(desk.turned(), above, below)
                self.assertEqual(one is None, other is None)
                self.assertEqual(one and one[0], other and other[0])
                if one is None:
                    self.assertEqual(sum(trip.climbed for trip in group_trips(desk, starts, ends)),
                                     sum(trip.climbed for trip in group_trips(desk.turned(), above, below)))
                if one and one[0] == "gap":
                    self.assertEqual(check_group_reason(desk.turned(), above, below, ("gap", 29 - one[1])), "gap")

    def test_single_rows_and_tables(self):
        for pairs in small_desks("turned listing", 40):
            desk = desk_of(pairs)
            self.assertEqual(count_rows(desk.turned()), count_rows(desk))
            if fewest(desk) <= 1:
                self.assertEqual(least_climb(desk.turned())[0], least_climb(desk)[0])
            self.assertEqual([line[2:] for line in excess_table(desk.turned()).split("\n")[::-1]],
                             [line[2:] for line in excess_table(desk).split("\n")])


class SumsTest(unittest.TestCase):
    def test_sums_and_differences(self):
        random = Random("sums")
        for _ in range(80):
            one = desk_of(drawn_pairs(random, random.randint(0, 20), 0, random.choice([5, 30])))
            other = desk_of(drawn_pairs(random, random.randint(0, 20), 0, random.choice([5, 30])))
            both = one + other
            self.assertEqual(both.excess, one.excess + other.excess)
            self.assertEqual(both.excess - other.excess, one.excess)
            self.assertLessEqual(fewest(both), fewest(one) + fewest(other))
            self.assertGreaterEqual(fewest(both), max([0, *both.excess.numbers]))
            live, planned = LiveDesk(*one.tickets), PlannedDesk(*one.tickets)
            self.assertEqual(live.needed(*other.tickets), fewest(both))
            for each in (live, planned):
                each.put(*other.tickets)
                self.assertEqual((each.desk, each.walkers), (both, fewest(both)))
                each.take(*other.tickets)
                self.assertEqual(each.desk.excess, one.excess)
                self.assertTrue(each.desk <= one and one <= each.desk)
                self.assertEqual(each.walkers, fewest(one))
            rows = Planner()(one).rows + Planner()(other).rows
            self.assertEqual(len(plan_table(Plan(both, *rows)).split("\n")), max(1, len(rows)))

    def test_stacked_desks(self):
        random = Random("stacked")
        for _ in range(80):
            low = drawn_pairs(random, random.randint(1, 6), 0, random.choice([3, 14]))
            high = [(x + 15, y + 15) for x, y in drawn_pairs(random, random.randint(1, 6), 0, random.choice([3, 14]))]
            one, other, both = desk_of(low), desk_of(high), desk_of(low + high)
            # Nobody has to go down from one to the other, so the rows of the lower desk go on in the higher one.
            self.assertEqual(fewest(both), max(fewest(one), fewest(other)))
            self.assertEqual(PlannedDesk(*both.tickets).walkers, fewest(both))
            self.assertEqual(both.excess.numbers[14], 0)
            rounds = (rounds_of(one), rounds_of(other))
            self.assertEqual(rounds_of(both), None if None in rounds else sum(rounds))
            lines = [excess_table(desk).split("\n") if excess_table(desk) else [] for desk in (one, other, both)]
            self.assertEqual([line for line in lines[2] if not line.endswith(" +0")],
                             [line for line in lines[0] + lines[1] if not line.endswith(" +0")])

    def test_joined_rows(self):
        random = Random("joined")
        for _ in range(40):
            low = drawn_pairs(random, 3, 0, 10)
            high = [(x + 12, y + 12) for x, y in drawn_pairs(random, 3, 0, 10)]
            for first in single_rows(desk_of(low)):
                for second in single_rows(desk_of(high)):
                    row = first + second
                    self.assertEqual(row.climb, first.climb + second.climb + second.begin - first.end)
                    self.assertEqual(pairs_of(row), pairs_of(first) + pairs_of(second))
                    rank_of_row(desk_of(low + high), row)
        self.assertEqual(Row() + Row(), Row())


if __name__ == "__main__":
    unittest.main()
