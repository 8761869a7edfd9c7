import unittest
from random import Random

from climbtickets.desks import Desk
from climbtickets.ends import RoundPlanner
from climbtickets.errors import NoRounds
from climbtickets.plans import Plan
from climbtickets.tables import excess_table, plan_table
from climbtickets.tickets import Row, Ticket
from climbtickets.walkers import Planner
from definitions import climb, excess, pairs_of
from drawn import PICKED, drawn_pairs, large_desks, small_desks
from shown import desk_of


def row_of(*pairs):
    return Row(*[Ticket(x, y) for x, y in pairs])


def plan_of(*rows):
    """The plan of these rows of pairs, for the desk of their tickets."""
    return Plan(desk_of([pair for row in rows for pair in row]), *[row_of(*row) for row in rows])


def expected_plan_lines(rows):
    """The lines of plan_table for rows of pairs, put together sign by sign."""
    lines = []
    for number, row in enumerate(rows, start=1):
        line = str(number).rjust(3) + ":"
        for x, y in row:
            line += " " + str(x).rjust(2) + "-" + str(y).ljust(2)
        lines.append(line + " climb " + str(climb(row)).rjust(4))
    return lines


def expected_excess_lines(pairs):
    heights = [height for pair in pairs for height in pair]
    lines = []
    for gap in range(min(heights, default=0), max(heights, default=0)):
        number = excess(pairs)[gap]
        sign = "-" if number < 0 else "+"
        lines.append(str(gap).rjust(2) + " " + (sign + str(abs(number))).rjust(4))
    return lines


class PlanTableTest(unittest.TestCase):
    def test_picked_plans(self):
        for rows, text in [
            ([], ""),
            ([[(0, 0)]], "  1:  0-0  climb    0"),
            ([[(3, 12), (12, 10)]], "  1:  3-12 12-10 climb    0"),
            ([[(0, 5), (30, 0)], [(9, 10)]], "  1:  0-5  30-0  climb   25\n  2:  9-10 climb    0"),
            ([[(10, 9), (9, 0), (9, 9)]], "  1: 10-9   9-0   9-9  climb    9"),
            ([[(30, 0)] * 11], "  1:" + " 30-0 " * 11 + " climb  300"),
            ([[(30, 0)] * 40], "  1:" + " 30-0 " * 40 + " climb 1170"),
        ]:
            with self.subTest(rows):
                found = plan_table(plan_of(*rows))
                self.assertIs(type(found), str)
                self.assertEqual(found, text)

    def test_numbers_of_rows(self):
        lines = plan_table(plan_of(*[[(4, 4)]] * 40)).split("\n")
        self.assertEqual(len(lines), 40)
        self.assertEqual([line[:4] for line in lines[:10]], ["  1:", "  2:", "  3:", "  4:", "  5:", "  6:", "  7:",
                                                            "  8:", "  9:", " 10:"])
        self.assertEqual(lines[39], " 40:  4-4  climb    0")

    def test_the_order_of_the_rows(self):
        rows = [[(0, 5)], [(9, 0), (3, 2)], [(1, 1)]]
        for order in (rows, rows[::-1], [rows[1], rows[0], rows[2]]):
            self.assertEqual(plan_table(plan_of(*order)).split("\n"), expected_plan_lines(order))

    def test_every_height(self):
        for height in range(31):
            rows = [[(height, height)], [(height, 0), (30, height)]]
            self.assertEqual(plan_table(plan_of(*rows)), "\n".join(expected_plan_lines(rows)))

    def test_plans_of_planners(self):
        for pairs in small_desks("tables", 60) + large_desks("tables", 20):
            desk = desk_of(pairs)
            self.assert_table(Planner()(desk))
            self.assert_table(Planner(walkers=len(desk))(desk))
            try:
                self.assert_table(RoundPlanner()(desk))
            except NoRounds:
                self.assertGreater(desk.excess.peak, 0)

    def assert_table(self, plan):
        rows = [pairs_of(row) for row in plan.rows]
        before = plan.rows
        self.assertEqual(plan_table(plan=plan), "\n".join(expected_plan_lines(rows)))
        self.assertIs(plan.rows, before)

    def test_climbs_of_every_width(self):
        for many, number in [(1, 0), (2, 5), (3, 10), (19, 90), (21, 100), (40, 195)]:
            self.assertEqual(plan_table(plan_of([(5, 0)] * many))[-10:], "climb " + str(number).rjust(4))


class ExcessTableTest(unittest.TestCase):
    def test_picked_desks(self):
        for pairs, text in [
            ([], ""),
            ([(0, 0)], ""),
            ([(30, 30), (30, 30)], ""),
            ([(0, 1)], " 0   +1"),
            ([(30, 29)], "29   -1"),
            ([(9, 11), (11, 10)], " 9   +1\n10   +0"),
            ([(9, 9), (11, 11)], " 9   +0\n10   +0"),
            ([(4, 5)] * 40, " 4  +40"),
            ([(5, 4)] * 40, " 4  -40"),
            ([(10, 9)] * 10, " 9  -10"),
            ([(9, 10)] * 9 + [(12, 11)], " 9   +9\n10   +0\n11   -1"),
        ]:
            with self.subTest(pairs):
                found = excess_table(desk_of(pairs))
                self.assertIs(type(found), str)
                self.assertEqual(found, text)

    def test_all_gaps(self):
        self.assertEqual(excess_table(desk_of([(0, 30)])), "\n".join([str(gap).rjust(2) + "   +1" for gap in range(30)]))

    def test_every_number(self):
        for up in range(41):
            for down in {0, 1, 40 - up}:
                if 0 < up + down <= 40:
                    pairs = [(14, 15)] * up + [(15, 14)] * down
                    self.assertEqual(excess_table(desk_of(pairs)), "\n".join(expected_excess_lines(pairs)))

    def test_drawn_desks(self):
        random = Random("excess table")
        for pairs in PICKED + large_desks("excess table", 60) + [drawn_pairs(random, 7, 0, 30) for _ in range(60)]:
            desk = desk_of(pairs)
            self.assertEqual(excess_table(desk=desk), "\n".join(expected_excess_lines(pairs)))
            self.assertEqual(desk, desk_of(pairs))

    def test_upside_down(self):
        for pairs in small_desks("turned table", 60):
            lines = excess_table(desk_of(pairs)).split("\n") if excess_table(desk_of(pairs)) else []
            turned = [str(29 - int(line[:2])).rjust(2) + line[2:] for line in lines[::-1]]
            self.assertEqual(excess_table(desk_of(pairs).turned()), "\n".join(turned))

    def test_no_tickets(self):
        self.assertEqual(excess_table(Desk()), "")
        self.assertEqual(plan_table(Plan(Desk())), "")


if __name__ == "__main__":
    unittest.main()
