import unittest
from operator import add, contains, ge, getitem, gt, le, lt, neg, sub
from time import perf_counter

from climbtickets.desks import Desk
from climbtickets.errors import InvalidNumber, InvalidPlan
from climbtickets.plans import Plan, is_round
from climbtickets.tickets import Row, Ticket
from samples import HUGE, STRANGE


def row_of(*pairs):
    return Row(*[Ticket(x, y) for x, y in pairs])


class PlanTest(unittest.TestCase):
    def setUp(self):
        self.desk = Desk.of_pairs((0, 5), (3, 2), (5, 0))
        self.rows = (row_of((5, 0), (3, 2)), row_of((0, 5)))

    def assert_invalid(self, part, spot, desk, *rows):
        with self.assertRaises(InvalidPlan) as caught:
            Plan(desk, *rows)
        self.assertIs(type(caught.exception), InvalidPlan)
        self.assertEqual((caught.exception.part, caught.exception.spot), (part, spot))
        self.assertIs(type(caught.exception.spot), type(spot))
        self.assertIs(Plan.is_plan(desk, *rows), False)

    def test_properties(self):
        plan = Plan(self.desk, *self.rows)
        self.assertIs(plan.desk, self.desk)
        self.assertIs(type(plan.rows), tuple)
        self.assertEqual(plan.rows, self.rows)
        self.assertIs(plan.rows[1], self.rows[1])
        self.assertEqual(plan.climb, 3)
        self.assertEqual(len(plan), 2)
        self.assertIs(Plan.is_plan(self.desk, *self.rows), True)
        self.assertIs(plan.is_plan(self.desk), False)

    def test_properties_give_the_same_again(self):
        plan = Plan(self.desk, *self.rows)
        for name in ("desk", "rows", "climb"):
            self.assertEqual(getattr(plan, name), getattr(plan, name))

    def test_properties_cannot_be_assigned(self):
        plan = Plan(self.desk, *self.rows)
        for name in ("desk", "rows", "climb"):
            with self.subTest(name):
                with self.assertRaises(AttributeError):
                    setattr(plan, name, 1)

    def test_climb_is_the_sum_of_all_rows(self):
        desk = Desk.of_pairs((0, 0), (30, 0), (7, 2), (4, 4), (1, 1))
        plan = Plan(desk, row_of((0, 0), (30, 0)), row_of((1, 1)), row_of((7, 2), (4, 4)))
        self.assertEqual(plan.climb, 30 + 0 + 2)

    def test_no_tickets(self):
        plan = Plan(Desk())
        self.assertEqual((plan.desk, plan.rows, plan.climb, len(plan)), (Desk(), (), 0, 0))
        self.assertIs(Plan.is_plan(Desk()), True)
        self.assertIs(Plan.is_plan(desk=Desk()), True)
        self.assertEqual(Plan(desk=Desk()), plan)
        self.assert_invalid("row", 0, Desk(), Row())
        self.assert_invalid("tickets", None, Desk(), row_of((0, 0)))

    def test_forty_rows(self):
        desk = Desk(*[Ticket(0, 5)] * 40)
        rows = [row_of((0, 5))] * 40
        self.assertEqual(len(Plan(desk, *rows)), 40)
        self.assert_invalid("tickets", None, desk, *rows[:39])
        self.assert_invalid("tickets", None, desk, *rows, *rows[:1])

    def test_rows_in_any_order(self):
        self.assertIs(Plan.is_plan(self.desk, *self.rows[::-1]), True)
        self.assertIs(Plan.is_plan(self.desk, row_of((0, 5), (5, 0), (3, 2))), True)
        self.assertIs(Plan.is_plan(self.desk, row_of((3, 2)), row_of((5, 0)), row_of((0, 5))), True)

    def test_equal_tickets(self):
        desk = Desk.of_pairs((2, 2), (1, 1), (2, 2))
        self.assertIs(Plan.is_plan(desk, row_of((2, 2), (2, 2)), row_of((1, 1))), True)
        self.assertIs(Plan.is_plan(desk, row_of((1, 1), (2, 2)), row_of((2, 2))), True)
        self.assert_invalid("tickets", None, desk, row_of((1, 1), (2, 2)), row_of((1, 1)))
        self.assert_invalid("tickets", None, desk, row_of((1, 1), (2, 2)))
        self.assert_invalid("tickets", None, desk, row_of((1, 1), (2, 2), (2, 2), (2, 2)))

    def test_rows_that_do_not_have_the_tickets_of_the_desk(self):
        self.assert_invalid("tickets", None, self.desk)
        self.assert_invalid("tickets", None, self.desk, self.rows[0])
        self.assert_invalid("tickets", None, self.desk, *self.rows, self.rows[1])
        self.assert_invalid("tickets", None, self.desk, self.rows[0], row_of((0, 4)))
        self.assert_invalid("tickets", None, self.desk, self.rows[0], row_of((1, 5)))
        self.assert_invalid("tickets", None, self.desk, self.rows[0], row_of((5, 0)))

    def test_values_that_are_no_rows_with_tickets(self):
        others = [("row without tickets", Row()), ("ticket", Ticket(0, 5)), ("desk", self.desk), ("integer", 0)]
        for title, wrong in STRANGE + others:
            with self.subTest(title):
                self.assert_invalid("row", 0, self.desk, wrong)
                self.assert_invalid("row", 0, self.desk, wrong, *self.rows)
                self.assert_invalid("row", 0, self.desk, wrong, wrong)
                self.assert_invalid("row", 1, self.desk, self.rows[0], wrong, self.rows[1])
                self.assert_invalid("row", 2, self.desk, *self.rows, wrong)
                self.assert_invalid("row", 1, self.desk, self.rows[0], wrong, None)
                self.assert_invalid("row", 1, Desk(), self.rows[0], wrong)

    def test_rows_with_very_many_parts(self):
        # Ten million tickets: going through all of them takes some seconds.
        row = Row(*[Ticket(0, 0)] * 10000)
        before = perf_counter()
        self.assert_invalid("tickets", None, self.desk, *[row] * 1000)
        self.assert_invalid("row", 1000, self.desk, *[row] * 1000, Row())
        self.assertLess(perf_counter() - before, 1)

    def test_equality(self):
        plan = Plan(self.desk, *self.rows)
        self.assertTrue(plan == Plan(Desk.of_pairs((0, 5), (3, 2), (5, 0)), row_of((5, 0), (3, 2)), row_of((0, 5))))
        self.assertFalse(plan != Plan(self.desk, *self.rows))
        others = [
            Plan(self.desk, *self.rows[::-1]),
            Plan(self.desk, row_of((0, 5), (5, 0), (3, 2))),
            Plan(Desk.of_pairs((3, 2), (0, 5), (5, 0)), *self.rows),
            Plan(Desk()),
        ]
        for other in others:
            self.assertFalse(plan == other)
            self.assertTrue(plan != other)

    def test_equality_with_other_values(self):
        others = [("rows", self.rows), ("desk", self.desk), ("row", self.rows[0]), ("integer", 0)]
        for title, other in STRANGE + others:
            with self.subTest(title):
                self.assertIs(Plan(self.desk, *self.rows) == other, False)
                self.assertIs(Plan(self.desk, *self.rows) != other, True)
                self.assertIs(Plan(Desk()) == other, False)

    def test_operators_that_are_not_described(self):
        plan = Plan(self.desk, *self.rows)
        others = [("plan", plan), ("desk", self.desk), ("row", self.rows[0]), ("integer", 1)]
        for title, other in STRANGE + others:
            if title != "refusing":
                for sign in (lt, gt, le, ge, add, sub):
                    with self.subTest(sign=sign.__name__, other=title):
                        with self.assertRaises(TypeError):
                            sign(plan, other)
            with self.subTest(sign="in", other=title):
                with self.assertRaises(TypeError):
                    contains(plan, other)
        with self.assertRaises(TypeError):
            neg(plan)

    def test_items(self):
        plan = Plan(self.desk, *self.rows)
        self.assertEqual((plan[0], plan[1]), self.rows)
        for title, at in STRANGE + [("2", 2), ("-1", -1), ("-2", -2), ("huge", HUGE), ("-huge", -HUGE)]:
            with self.subTest(title):
                with self.assertRaises(InvalidNumber) as caught:
                    getitem(plan, at)
                self.assertIs(caught.exception.value, at)
        for at in (0, -1, 1):
            with self.assertRaises(InvalidNumber):
                Plan(Desk())[at]

    def test_the_desk_and_the_rows_stay_as_they_are(self):
        Plan(self.desk, *self.rows)
        Plan.is_plan(self.desk, self.rows[0])
        self.assertEqual(self.desk, Desk.of_pairs((0, 5), (3, 2), (5, 0)))
        self.assertEqual(self.rows, (row_of((5, 0), (3, 2)), row_of((0, 5))))


class RoundTest(unittest.TestCase):
    def test_rounds(self):
        for row in (row_of((5, 5)), row_of((5, 0)), row_of((0, 5), (5, 0)), row_of((0, 5), (7, 0), (30, 0)),
                    row_of((3, 30), (30, 3))):
            self.assertIs(is_round(row), True)
            self.assertIs(is_round(row=row), True)

    def test_rows_that_are_no_rounds(self):
        for row in (Row(), row_of((0, 5)), row_of((0, 0), (1, 1)), row_of((5, 0), (7, 6)), row_of((29, 30))):
            self.assertIs(is_round(row), False)


if __name__ == "__main__":
    unittest.main()
