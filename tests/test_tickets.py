import unittest
from operator import add, ge, getitem, gt, le, lt, mul, neg, sub

from climbtickets.desks import Desk, Profile
from climbtickets.errors import BrokenRow, InvalidNumber, InvalidTicket
from climbtickets.tickets import Row, Ticket
from samples import HUGE, STRANGE


def row_of(*pairs):
    return Row(*[Ticket(x, y) for x, y in pairs])


def pairs_of(row):
    return [(ticket.x, ticket.y) for ticket in row.tickets]


class TicketTest(unittest.TestCase):
    def assert_invalid(self, x, y, part):
        with self.assertRaises(InvalidTicket) as caught:
            Ticket(x, y)
        self.assertIs(type(caught.exception), InvalidTicket)
        self.assertEqual(caught.exception.part, part)

    def test_greatest_height(self):
        self.assertEqual(Ticket.MAX_HEIGHT, 30)
        self.assertEqual(Ticket(0, 1).MAX_HEIGHT, 30)

    def test_heights(self):
        for x in range(31):
            for y in range(31):
                ticket = Ticket(x, y)
                self.assertEqual((ticket.x, ticket.y), (x, y))
                self.assertIs(ticket.is_up, y > x)
                self.assertIs(ticket.is_down, y < x)

    def test_arguments_by_name(self):
        ticket = Ticket(y=2, x=7)
        self.assertEqual((ticket.x, ticket.y), (7, 2))

    def test_numbers_that_are_no_heights(self):
        for wrong in (-1, 31, 32, -30, HUGE, -HUGE):
            self.assert_invalid(wrong, 5, "x")
            self.assert_invalid(5, wrong, "y")
            self.assert_invalid(wrong, wrong, "x")

    def test_values_that_are_no_heights(self):
        for title, wrong in STRANGE + [("ticket", Ticket(0, 1)), ("row", Row())]:
            with self.subTest(title):
                self.assert_invalid(wrong, 5, "x")
                self.assert_invalid(5, wrong, "y")
                self.assert_invalid(wrong, wrong, "x")
                self.assert_invalid(wrong, 31, "x")
                self.assert_invalid(-1, wrong, "x")

    def test_properties_cannot_be_assigned(self):
        for name in ("x", "y", "is_up", "is_down"):
            with self.subTest(name):
                with self.assertRaises(AttributeError):
                    setattr(Ticket(0, 1), name, 1)

    def test_equality(self):
        self.assertTrue(Ticket(3, 4) == Ticket(3, 4))
        self.assertFalse(Ticket(3, 4) != Ticket(3, 4))
        for other in (Ticket(3, 5), Ticket(2, 4), Ticket(4, 3)):
            self.assertFalse(Ticket(3, 4) == other)
            self.assertTrue(Ticket(3, 4) != other)

    def test_equality_with_other_values(self):
        ticket = Ticket(0, 5)
        for title, other in STRANGE + [("row", Row(ticket)), ("desk", Desk(ticket)), ("integer", 0)]:
            with self.subTest(title):
                self.assertIs(ticket == other, False)
                self.assertIs(ticket != other, True)

    def test_order(self):
        tickets = [Ticket(x, y) for x in (0, 1, 2, 30) for y in (0, 1, 2, 30)]
        for one in tickets:
            for other in tickets:
                expected = (one.x, one.y) < (other.x, other.y)
                self.assertIs(one < other, expected)
                self.assertIs(other > one, expected)

    def test_sorting(self):
        pairs = [(3, 2), (0, 5), (30, 0), (3, 1), (0, 5), (0, 0)]
        ordered = sorted([Ticket(x, y) for x, y in pairs])
        self.assertEqual([(ticket.x, ticket.y) for ticket in ordered], sorted(pairs))

    def test_operators_that_are_not_described(self):
        ticket = Ticket(0, 5)
        for sign in (lt, gt, le, ge, add, sub, mul):
            for title, other in STRANGE + [("row", Row()), ("desk", Desk()), ("integer", 1)]:
                if title != "refusing":
                    with self.subTest(sign=sign.__name__, other=title):
                        with self.assertRaises(TypeError):
                            sign(ticket, other)
        for sign in (le, ge, add, sub, mul):
            with self.assertRaises(TypeError):
                sign(ticket, Ticket(0, 5))
        for sign in (neg, len, abs):
            with self.assertRaises(TypeError):
                sign(ticket)

    def test_touched_heights(self):
        for x, y in ((0, 5), (5, 0), (3, 3), (0, 0), (30, 30), (0, 30), (30, 0), (7, 9), (9, 7)):
            ticket = Ticket(x, y)
            for height in range(-2, 34):
                self.assertIs(height in ticket, min(x, y) <= height <= max(x, y))

    def test_touched_by_other_values(self):
        for title, value in STRANGE + [("huge", HUGE), ("negative", -HUGE), ("ticket", Ticket(0, 30))]:
            with self.subTest(title):
                self.assertIs(value in Ticket(0, 30), False)
                self.assertIs(value in Ticket(30, 0), False)
                self.assertIs(value in Ticket(1, 1), False)

    def test_items(self):
        ticket = Ticket(7, 2)
        self.assertEqual((ticket[0], ticket[1]), (7, 2))
        for title, at in STRANGE + [("2", 2), ("-1", -1), ("-2", -2), ("huge", HUGE), ("ticket", ticket)]:
            with self.subTest(title):
                with self.assertRaises(InvalidNumber) as caught:
                    getitem(ticket, at)
                self.assertIs(caught.exception.value, at)

    def test_turned(self):
        for x in range(31):
            for y in range(31):
                turned = Ticket(x, y).turned()
                self.assertIs(type(turned), Ticket)
                self.assertEqual((turned.x, turned.y), (30 - y, 30 - x))
                self.assertEqual(turned.turned(), Ticket(x, y))

    def test_turned_gives_a_new_object_and_changes_nothing(self):
        ticket = Ticket(7, 2)
        ticket.turned()
        self.assertEqual((ticket.x, ticket.y), (7, 2))


class RowTest(unittest.TestCase):
    def assert_broken(self, spot, *values):
        with self.assertRaises(BrokenRow) as caught:
            Row(*values)
        self.assertIs(type(caught.exception), BrokenRow)
        self.assertEqual(caught.exception.spot, spot)
        self.assertIs(type(caught.exception.spot), int)

    def test_no_tickets(self):
        row = Row()
        self.assertEqual(row.tickets, ())
        self.assertIsNone(row.begin)
        self.assertIsNone(row.end)
        self.assertEqual(row.climb, 0)
        self.assertEqual(len(row), 0)
        self.assertIs(bool(row), False)
        self.assertEqual(row.turned(), row)
        self.assertEqual(row + row, row)

    def test_properties(self):
        row = row_of((0, 5), (5, 0), (3, 2), (30, 0), (30, 30))
        self.assertIs(type(row.tickets), tuple)
        self.assertEqual(pairs_of(row), [(0, 5), (5, 0), (3, 2), (30, 0), (30, 30)])
        self.assertEqual((row.begin, row.end), (0, 30))
        self.assertEqual(row.climb, 0 + 3 + 28 + 30)
        self.assertEqual(len(row), 5)
        self.assertIs(bool(row), True)

    def test_properties_give_the_same_again(self):
        row = row_of((0, 5), (5, 0), (3, 2))
        for name in ("tickets", "begin", "end", "climb"):
            self.assertEqual(getattr(row, name), getattr(row, name))

    def test_properties_cannot_be_assigned(self):
        for name in ("tickets", "begin", "end", "climb"):
            with self.subTest(name):
                with self.assertRaises(AttributeError):
                    setattr(row_of((0, 5)), name, 1)

    def test_the_tickets_are_the_very_objects(self):
        ticket = Ticket(0, 0)
        row = Row(ticket, ticket)
        self.assertIs(row.tickets[0], ticket)
        self.assertIs(row[1], ticket)

    def test_one_ticket_of_each_kind(self):
        for pair in ((0, 30), (30, 0), (4, 4)):
            row = row_of(pair)
            self.assertEqual((row.begin, row.end, row.climb), (*pair, 0))
            self.assertIs(bool(row), True)

    def test_long_rows(self):
        row = Row(*[Ticket(1, 0)] * 1000)
        self.assertEqual((len(row), row.climb), (1000, 999))

    def test_first_ticket_that_begins_too_low(self):
        self.assert_broken(1, Ticket(0, 5), Ticket(4, 5))
        self.assert_broken(2, Ticket(0, 5), Ticket(5, 7), Ticket(6, 7), Ticket(6, 7))
        self.assert_broken(3, Ticket(0, 0), Ticket(0, 0), Ticket(0, 1), Ticket(0, 0))
        self.assert_broken(1, Ticket(0, 30), Ticket(0, 30))

    def test_first_value_that_is_no_ticket(self):
        for title, wrong in STRANGE + [("integer", 0), ("row", Row()), ("desk", Desk())]:
            with self.subTest(title):
                self.assert_broken(0, wrong)
                self.assert_broken(0, wrong, wrong)
                self.assert_broken(0, wrong, Ticket(0, 5), Ticket(0, 5))
                self.assert_broken(1, Ticket(0, 5), wrong)
                self.assert_broken(2, Ticket(0, 5), Ticket(5, 6), wrong, Ticket(0, 1))
                self.assert_broken(1, Ticket(0, 5), Ticket(0, 5), wrong)

    def test_equality(self):
        one = row_of((0, 1), (1, 0), (0, 1))
        self.assertTrue(one == row_of((0, 1), (1, 0), (0, 1)))
        self.assertFalse(one != row_of((0, 1), (1, 0), (0, 1)))
        self.assertFalse(row_of((1, 0), (2, 1)) == row_of((2, 1), (1, 0)))
        self.assertFalse(one == row_of((0, 1), (1, 0)))
        self.assertTrue(one != Row())
        self.assertTrue(Row() == Row())

    def test_equality_with_other_values(self):
        tickets = (Ticket(0, 5),)
        row = Row(*tickets)
        others = [("tuple of tickets", tickets), ("ticket", tickets[0]), ("desk", Desk(*tickets))]
        for title, other in STRANGE + others:
            with self.subTest(title):
                self.assertIs(row == other, False)
                self.assertIs(row != other, True)
                self.assertIs(Row() == other, False)

    def test_order(self):
        pairs = [(), ((0, 0),), ((0, 0), (0, 0)), ((0, 0), (1, 0)), ((0, 1),), ((1, 0),), ((1, 0), (0, 0))]
        rows = [row_of(*each) for each in pairs]
        for at, one in enumerate(rows):
            for other_at, other in enumerate(rows):
                self.assertIs(one < other, pairs[at] < pairs[other_at])
                self.assertIs(other > one, pairs[at] < pairs[other_at])
        self.assertEqual(sorted(rows[::-1]), rows)

    def test_operators_that_are_not_described(self):
        row = row_of((0, 5))
        for sign in (lt, gt, le, ge, add, sub, mul):
            for title, other in STRANGE + [("desk", Desk()), ("integer", 1)]:
                if title != "refusing":
                    with self.subTest(sign=sign.__name__, other=title):
                        with self.assertRaises(TypeError):
                            sign(row, other)
        for sign in (le, ge, sub, mul):
            with self.assertRaises(TypeError):
                sign(row, row)
        for sign in (lt, gt, sub):
            with self.assertRaises(TypeError):
                sign(row, Ticket(5, 5))
        with self.assertRaises(TypeError):
            Ticket(0, 0) + row
        with self.assertRaises(TypeError):
            -row

    def test_contains(self):
        row = row_of((0, 5), (5, 0), (5, 0))
        self.assertIs(Ticket(5, 0) in row, True)
        self.assertIs(Ticket(0, 5) in row, True)
        self.assertIs(Ticket(5, 1) in row, False)
        self.assertIs(Ticket(5, 0) in Row(), False)
        for title, value in STRANGE + [("integer", 0), ("row", row), ("huge", HUGE)]:
            with self.subTest(title):
                self.assertIs(value in row, False)
                self.assertIs(value in Row(), False)

    def test_items(self):
        row = row_of((0, 5), (5, 0), (3, 2))
        self.assertEqual([(row[n].x, row[n].y) for n in range(3)], [(0, 5), (5, 0), (3, 2)])
        for title, at in STRANGE + [("3", 3), ("-1", -1), ("-3", -3), ("huge", HUGE), ("-huge", -HUGE)]:
            with self.subTest(title):
                with self.assertRaises(InvalidNumber) as caught:
                    getitem(row, at)
                self.assertIs(caught.exception.value, at)
        for at in (0, -1, 1):
            with self.assertRaises(InvalidNumber):
                Row()[at]

    def test_sum(self):
        row = row_of((0, 5), (5, 0))
        self.assertEqual(pairs_of(row + row_of((1, 2), (2, 2))), [(0, 5), (5, 0), (1, 2), (2, 2)])
        self.assertEqual(pairs_of(row + Ticket(0, 1)), [(0, 5), (5, 0), (0, 1)])
        self.assertEqual(row + Row(), row)
        self.assertEqual(Row() + row, row)
        self.assertEqual(Row() + Ticket(3, 4), row_of((3, 4)))
        self.assertEqual(pairs_of(row + row), [(0, 5), (5, 0), (0, 5), (5, 0)])
        self.assertIs(type(row + Ticket(0, 1)), Row)
        self.assertIs(type(row + row), Row)

    def test_sum_that_does_not_fit(self):
        row = row_of((0, 5), (5, 3))
        for other in (Ticket(2, 30), row_of((2, 0)), row_of((0, 0), (0, 0)), row):
            with self.assertRaises(BrokenRow) as caught:
                row + other
            self.assertEqual(caught.exception.spot, 2)

    def test_sum_leaves_its_operands_as_they_are(self):
        one = row_of((0, 5))
        other = row_of((5, 6))
        kept = one
        one += other
        self.assertEqual(pairs_of(one), [(0, 5), (5, 6)])
        self.assertEqual(pairs_of(kept), [(0, 5)])
        self.assertEqual(pairs_of(other), [(5, 6)])

    def test_cut(self):
        row = row_of((0, 5), (5, 0), (3, 2))
        for number in range(4):
            parts = row.cut(number)
            self.assertIs(type(parts), tuple)
            first, others = parts
            self.assertEqual((type(first), type(others)), (Row, Row))
            self.assertEqual(pairs_of(first), pairs_of(row)[:number])
            self.assertEqual(pairs_of(others), pairs_of(row)[number:])
            self.assertEqual(first + others, row)
        self.assertEqual(Row().cut(0), (Row(), Row()))
        self.assertEqual(row.cut(number=1), row.cut(1))
        self.assertEqual(pairs_of(row), [(0, 5), (5, 0), (3, 2)])

    def test_cut_at_no_possible_number(self):
        row = row_of((0, 5), (5, 0), (3, 2))
        for title, number in STRANGE + [("4", 4), ("-1", -1), ("-3", -3), ("huge", HUGE), ("ticket", row[0])]:
            with self.subTest(title):
                with self.assertRaises(InvalidNumber) as caught:
                    row.cut(number)
                self.assertIs(caught.exception.value, number)
        with self.assertRaises(InvalidNumber):
            Row().cut(1)

    def test_turned(self):
        row = row_of((0, 5), (5, 0), (3, 2), (28, 30))
        turned = row.turned()
        self.assertIs(type(turned), Row)
        self.assertEqual(pairs_of(turned), [(0, 2), (28, 27), (30, 25), (25, 30)])
        self.assertEqual(turned.climb, row.climb)
        self.assertEqual((turned.begin, turned.end), (30 - row.end, 30 - row.begin))
        self.assertEqual(turned.turned(), row)
        self.assertEqual(pairs_of(row), [(0, 5), (5, 0), (3, 2), (28, 30)])


if __name__ == "__main__":
    unittest.main()
