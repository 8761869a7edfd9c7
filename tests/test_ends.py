import unittest
from random import Random
from time import perf_counter

import search
from climbtickets.desks import Desk
from climbtickets.ends import EndsPlanner, RoundPlanner, check_reason_against, reason_against
from climbtickets.errors import InvalidAnswer, InvalidNumber, NoRounds, NoRow
from climbtickets.plans import Plan, is_round
from climbtickets.tickets import Row
from climbtickets.walkers import Planner
from definitions import (HEIGHTS, climb, climbs_between, excess, is_correct_obstacle, is_row, is_whole, pairs_of,
                         total_rise)
from drawn import PICKED, balanced, large_desks, small_desks, some_heights
from nearly import nearly_forms, nearly_gaps, nearly_heights
from samples import HUGE, STRANGE

NO_HEIGHTS = STRANGE + [("-1", -1), ("31", 31), ("huge", HUGE), ("-huge", -HUGE)]

# One walker from 0 to 5 climbs nowhere, so nobody comes to the height 3.
APART = [(0, 5), (3, 3)]


def desk_of(pairs):
    return Desk.of_pairs(*pairs)


class EndsTest(unittest.TestCase):
    def assert_reason(self, pairs, begin, end, reason):
        """A reason of the right kind, as the definitions say, and as check_reason_against says."""
        climbs = climbs_between(pairs, begin, end)
        self.assertIs(type(reason), tuple)
        self.assertEqual(len(reason), 2)
        self.assertEqual(reason[0], "gap" if min(climbs) < 0 else "part")
        if reason[0] == "gap":
            self.assertTrue(is_whole(reason[1]))
        self.assertTrue(is_correct_obstacle(pairs, climbs, (begin,), reason))
        self.assertEqual(check_reason_against(desk_of(pairs), begin, end, reason), reason[0])

    def assert_row(self, pairs, begin, end, row):
        self.assertIs(type(row), Row)
        found = pairs_of(row)
        self.assertTrue(is_row(found))
        self.assertEqual(sorted(found), sorted(pairs))
        effort = end - begin
        if pairs:
            self.assertTrue(begin <= found[0][0])
            self.assertTrue(found[-1][1] <= end)
            effort = found[0][0] - begin + climb(found) + end - found[-1][1]
        self.assertEqual(EndsPlanner(begin, end).effort(desk_of(pairs)), effort)
        self.assertEqual(effort, end - begin - total_rise(pairs))
        self.assertEqual(effort, sum(climbs_between(pairs, begin, end)))

    def assert_no_row(self, pairs, begin, end):
        planner = EndsPlanner(begin, end)
        for asked in (planner, planner.effort):
            with self.assertRaises(NoRow) as caught:
                asked(desk_of(pairs))
            self.assertIs(type(caught.exception), NoRow)
            self.assert_reason(pairs, begin, end, caught.exception.reason)

    def assert_answer(self, pairs, begin, end):
        """Either a row, or a reason against it."""
        desk = desk_of(pairs)
        reason = reason_against(desk, begin, end)
        if reason is None:
            self.assert_row(pairs, begin, end, EndsPlanner(begin, end)(desk))
        else:
            self.assert_reason(pairs, begin, end, reason)
            self.assert_no_row(pairs, begin, end)
        self.assertEqual(desk, desk_of(pairs))
        return reason


class ReasonAgainstTest(EndsTest):
    def test_kinds(self):
        for pairs, begin, end, kind in [(APART, 0, 5, "part"), (APART, 1, 5, "gap"), (APART, 0, 4, "gap"),
                                        ([], 5, 4, "gap"), ([(4, 4)], 5, 9, "part"), ([(4, 4)], 0, 3, "part"),
                                        ([(4, 4)], 5, 3, "gap"), ([(0, 30)], 30, 30, "gap")]:
            with self.subTest(pairs=pairs, begin=begin, end=end):
                self.assertEqual(reason_against(desk_of(pairs), begin, end)[0], kind)

    def test_no_reason(self):
        for pairs, begin, end in [([], 4, 4), ([], 0, 30), ([(4, 4)], 4, 4), ([(4, 4)], 0, 30), ([(0, 30)], 0, 30),
                                  ([(30, 0)], 0, 0), ([(30, 0)], 30, 0), ([(0, 5), (5, 0), (3, 2)], 0, 2)]:
            with self.subTest(pairs=pairs, begin=begin, end=end):
                self.assertIs(reason_against(desk_of(pairs), begin, end), None)

    def test_a_closed_part(self):
        word, heights = reason_against(desk_of(APART), 0, 5)
        self.assertEqual(word, "part")
        self.assertIn(3, heights)
        self.assertFalse({0, 5} & set(heights))

    def test_small_desks_against_the_search(self):
        random = Random("ends")
        for pairs in small_desks("ends", 110):
            with self.subTest(pairs):
                possible = search.possible_ends(pairs)
                for begin in HEIGHTS:
                    for end in HEIGHTS:
                        reason = reason_against(desk_of(pairs), begin, end)
                        self.assertIs(reason is None, (begin, end) in possible)
                chosen = [some_heights(random, 2) for _ in range(12)] + sorted(possible)[::60]
                for begin, end in chosen:
                    self.assert_answer(pairs, begin, end)

    def test_efforts_against_the_search(self):
        random = Random("efforts")
        for pairs in small_desks("efforts", 150):
            possible = sorted(search.possible_ends(pairs))
            for begin, end in random.sample(possible, min(3, len(possible))):
                with self.subTest(pairs=pairs, begin=begin, end=end):
                    effort = EndsPlanner(begin, end).effort(desk_of(pairs))
                    self.assertEqual(effort, search.least_effort(pairs, begin, end))
                    self.assertIs(type(effort), int)

    def test_large_desks(self):
        random = Random("large ends")
        found = {"gap": 0, "part": 0, "row": 0}
        for pairs in large_desks("ends", 120) + [balanced(random, 40) for _ in range(30)]:
            chosen = [some_heights(random, 2) for _ in range(6)] + [(0, 30), (30, 0), (0, 0), (30, 30)]
            for begin, end in chosen:
                with self.subTest(pairs=pairs, begin=begin, end=end):
                    reason = self.assert_answer(pairs, begin, end)
                    found[reason[0] if reason else "row"] += 1
        self.assertGreater(min(found.values()), 50)

    def test_every_pair_of_ends_of_large_desks(self):
        for pairs in large_desks("every pair", 2):
            for begin in HEIGHTS:
                for end in HEIGHTS:
                    reason = reason_against(desk_of(pairs), begin, end)
                    if reason is None:
                        self.assert_row(pairs, begin, end, EndsPlanner(begin, end)(desk_of(pairs)))
                    else:
                        self.assert_reason(pairs, begin, end, reason)

    def test_upside_down(self):
        random = Random("turned ends")
        for pairs in small_desks("turned ends", 80) + large_desks("turned ends", 40):
            for begin, end in [some_heights(random, 2) for _ in range(10)]:
                with self.subTest(pairs=pairs, begin=begin, end=end):
                    reason = reason_against(desk_of(pairs), begin, end)
                    turned = reason_against(desk_of(pairs).turned(), 30 - end, 30 - begin)
                    self.assertEqual(reason and reason[0], turned and turned[0])

    def test_wrong_ends(self):
        desk = desk_of(APART)
        for title, value in NO_HEIGHTS:
            for _, other in [("3", 3)] + NO_HEIGHTS:
                with self.subTest(title):
                    self.assert_invalid_number(value, desk, value, other)
            with self.subTest(title):
                self.assert_invalid_number(value, desk, 3, value)

    def assert_invalid_number(self, value, desk, begin, end):
        asked = [(reason_against, (desk, begin, end)), (EndsPlanner, (begin, end)),
                 (check_reason_against, (desk, begin, end, ("gap", 0))),
                 (check_reason_against, (desk, begin, end, "no pair"))]
        for function, arguments in asked:
            with self.assertRaises(InvalidNumber) as caught:
                function(*arguments)
            self.assertIs(type(caught.exception), InvalidNumber)
            self.assertIs(caught.exception.value, value)

    def test_parameter_names(self):
        desk = desk_of(APART)
        self.assertEqual(reason_against(desk=desk, begin=0, end=5)[0], "part")
        self.assertEqual(check_reason_against(desk=desk, begin=0, end=5, answer=("part", (3,))), "part")
        self.assertEqual(EndsPlanner(begin=0, end=6).effort(desk=desk_of([(0, 5)])), 1)
        self.assertEqual(len(EndsPlanner(begin=0, end=6)(desk=desk_of([(0, 5)]))), 1)


class CheckReasonAgainstTest(EndsTest):
    def assert_invalid(self, pairs, begin, end, answer, part):
        desk = desk_of(pairs)
        with self.assertRaises(InvalidAnswer) as caught:
            check_reason_against(desk, begin, end, answer)
        self.assertIs(type(caught.exception), InvalidAnswer)
        self.assertIs(type(caught.exception.part), str)
        self.assertEqual(caught.exception.part, part)
        self.assertEqual(desk, desk_of(pairs))

    def assert_as_defined(self, pairs, begin, end, answer):
        """A pair of the right form is accepted if it is as described, and only then."""
        if is_correct_obstacle(pairs, climbs_between(pairs, begin, end), (begin,), answer):
            self.assertEqual(check_reason_against(desk_of(pairs), begin, end, answer), answer[0])
        else:
            self.assert_invalid(pairs, begin, end, answer, answer[0])

    def test_gaps(self):
        for begin, end, negative in [(0, 5, []), (2, 5, [0, 1]), (0, 3, [3, 4]), (3, 2, [0, 1, 2, 3, 4]), (9, 9, range(5)),
                                     (9, 7, [0, 1, 2, 3, 4, 7, 8])]:
            for gap in range(30):
                if gap in negative:
                    self.assertEqual(check_reason_against(desk_of(APART), begin, end, ("gap", gap)), "gap")
                else:
                    self.assert_invalid(APART, begin, end, ("gap", gap), "gap")

    def test_parts(self):
        for heights in [(3,), (1, 3), (1, 2, 3, 4), (2, 3), (3, 4), (3, 6), (2, 3, 29)]:
            self.assertEqual(check_reason_against(desk_of(APART), 0, 5, ("part", heights)), "part")
        for heights in [(), (2,), (6,), (0, 3), (0, 3, 5), (3, 5), tuple(HEIGHTS)]:
            self.assert_invalid(APART, 0, 5, ("part", heights), "part")

    def test_parts_with_the_begin(self):
        pairs = [(4, 4), (7, 7)]
        self.assertEqual(check_reason_against(desk_of(pairs), 4, 4, ("part", (7,))), "part")
        self.assert_invalid(pairs, 4, 4, ("part", (4,)), "part")
        self.assert_invalid(pairs, 4, 4, ("part", (4, 7)), "part")

    def test_parts_that_a_ticket_leaves(self):
        pairs = [(4, 6), (6, 4), (9, 9)]
        self.assertEqual(check_reason_against(desk_of(pairs), 9, 9, ("part", (4, 6))), "part")
        self.assert_invalid(pairs, 9, 9, ("part", (4,)), "part")
        self.assert_invalid(pairs, 9, 9, ("part", (6,)), "part")

    def test_parts_with_a_border_that_is_climbed(self):
        pairs = [(4, 4), (6, 5)]
        self.assertEqual(climbs_between(pairs, 0, 0)[3:7], [0, 0, 1, 0])
        self.assertEqual(check_reason_against(desk_of(pairs), 0, 0, ("part", (5, 6))), "part")
        self.assertEqual(check_reason_against(desk_of(pairs), 0, 0, ("part", (4, 5, 6))), "part")
        self.assert_invalid(pairs, 0, 0, ("part", (4, 5)), "part")
        self.assert_invalid(pairs, 0, 0, ("part", (4, 6)), "part")

    def test_parts_beside_a_negative_number(self):
        pairs = [(3, 3), (10, 12)]
        self.assertEqual(min(climbs_between(pairs, 5, 8)), -1)
        self.assertEqual(check_reason_against(desk_of(pairs), 5, 8, ("part", (3,))), "part")
        # Gaps with a negative number are borders no more than those with a positive one.
        self.assertEqual(check_reason_against(desk_of(pairs), 5, 8, ("part", (10, 11, 12))), "part")
        self.assert_invalid(pairs, 5, 8, ("part", (10, 12)), "part")

    def test_answers_that_are_nearly_right(self):
        for pairs, begin, end in [(APART, 0, 5), ([(4, 4)], 5, 9), ([(1, 1), (6, 2), (2, 6)], 4, 4)]:
            word, heights = reason_against(desk_of(pairs), begin, end)
            self.assertEqual(word, "part")
            for others in nearly_heights(heights):
                self.assert_as_defined(pairs, begin, end, (word, others))
                self.assert_as_defined(pairs, begin, end, ("gap", others))
        for pairs, begin, end in [(APART, 1, 5), ([(1, 2)], 0, 1), ([], 9, 3)]:
            for other in nearly_gaps(reason_against(desk_of(pairs), begin, end)[1]):
                self.assert_as_defined(pairs, begin, end, ("gap", other))
                self.assert_as_defined(pairs, begin, end, ("part", other))

    def test_parts_of_every_kind(self):
        random = Random("parts")
        found = 0
        for pairs in small_desks("parts", 150):
            for _ in range(40):
                begin, end = some_heights(random, 2)
                ends = tuple(sorted({height for pair in pairs for height in pair if random.random() < 0.6}))
                climbs = climbs_between(pairs, begin, end)
                for heights in (ends, tuple(sorted(random.sample(range(31), random.randint(0, 4))))):
                    found += is_correct_obstacle(pairs, climbs, (begin,), ("part", heights))
                    self.assert_as_defined(pairs, begin, end, ("part", heights))
        self.assertGreater(found, 100)

    def test_true_in_place_of_one(self):
        self.assertEqual(check_reason_against(desk_of([(1, 1)]), 3, 4, ("part", (1,))), "part")
        self.assert_invalid([(1, 1)], 3, 4, ("part", (True,)), "part")
        self.assertEqual(check_reason_against(desk_of([]), 2, 0, ("gap", 1)), "gap")
        self.assert_invalid([], 2, 0, ("gap", True), "gap")
        self.assert_invalid([], 2, 0, ("gap", False), "gap")

    def test_forms(self):
        for answer in [("gap", 3), ("part", (3,))]:
            for wrong in nearly_forms(answer):
                self.assert_invalid(APART, 0, 5, wrong, "form")
        for wrong in [("gap",), ("part",), ("gap", 3, 3), ("island", 0, (3,)), ("none",), ("one",), ("form", 3), ()]:
            self.assert_invalid(APART, 0, 5, wrong, "form")

    def test_the_very_object_in_the_field(self):
        word = "".join(["pa", "rt"])
        with self.assertRaises(InvalidAnswer) as caught:
            check_reason_against(desk_of(APART), 0, 5, (word, (0,)))
        self.assertIs(caught.exception.part, word)

    def test_values_that_are_too_large(self):
        before = perf_counter()
        many = tuple(HEIGHTS) * 100000
        for answer in [("part",) * 1000000, ("part", many), ("gap", many), ("gap", HUGE)]:
            with self.assertRaises(InvalidAnswer):
                check_reason_against(desk_of(APART), 0, 5, answer)
        self.assertLess(perf_counter() - before, 1)


class EndsPlannerTest(EndsTest):
    def test_walkers(self):
        planner = EndsPlanner(0, 5)
        self.assertIsInstance(planner, Planner)
        self.assertEqual(planner.walkers, 1)
        self.assertIs(type(planner.walkers), int)
        with self.assertRaises(AttributeError):
            planner.walkers = 2

    def test_no_tickets(self):
        self.assertEqual(EndsPlanner(4, 4)(Desk()), Row())
        self.assertEqual(EndsPlanner(4, 9)(Desk()), Row())
        self.assertEqual(EndsPlanner(4, 9).effort(Desk()), 5)
        self.assertEqual(EndsPlanner(4, 4).effort(Desk()), 0)
        self.assert_no_row([], 9, 4)

    def test_a_row_between_the_very_ends(self):
        self.assertEqual(pairs_of(EndsPlanner(0, 5)(desk_of([(0, 5)]))), [(0, 5)])
        self.assertEqual(pairs_of(EndsPlanner(2, 3)(desk_of([(1, 3), (2, 0)]))), [(2, 0), (1, 3)])
        self.assert_no_row([(0, 5)], 1, 5)
        self.assert_no_row([(0, 5)], 0, 4)
        self.assert_no_row([(2, 2)], 3, 2)

    def test_efforts(self):
        for pairs, begin, end, effort in [([(5, 0)], 5, 0, 0), ([(5, 0)], 0, 0, 5), ([(5, 0)], 0, 30, 35),
                                          ([(2, 0), (1, 3)], 2, 3, 1), ([(2, 2)] * 40, 0, 30, 30),
                                          ([(30, 0)] * 40, 30, 0, 39 * 30), ([(30, 0)] * 40, 0, 30, 41 * 30)]:
            self.assertEqual(EndsPlanner(begin, end).effort(desk_of(pairs)), effort)

    def test_one_planner_for_many_desks(self):
        planner = EndsPlanner(0, 30)
        for pairs in PICKED:
            if (0, 30) in search.possible_ends(pairs):
                self.assert_row(pairs, 0, 30, planner(desk_of(pairs)))
            else:
                self.assertRaises(NoRow, planner, desk_of(pairs))
        self.assertEqual(planner.walkers, 1)


class RoundPlannerTest(EndsTest):
    def assert_rounds(self, pairs, number):
        desk = desk_of(pairs)
        plan = RoundPlanner()(desk)
        self.assertIs(type(plan), Plan)
        self.assertEqual(plan.desk, desk)
        self.assertEqual(len(plan), number)
        rows = [pairs_of(row) for row in plan.rows]
        self.assertTrue(all(is_row(row) and row[0][0] >= row[-1][1] for row in rows))
        self.assertTrue(all(is_round(row) for row in plan.rows))
        self.assertEqual(sorted(pair for row in rows for pair in row), sorted(pairs))

    def assert_no_rounds(self, pairs):
        positive = [gap for gap, number in enumerate(excess(pairs)) if number > 0]
        with self.assertRaises(NoRounds) as caught:
            RoundPlanner()(desk_of(pairs))
        self.assertIs(type(caught.exception), NoRounds)
        self.assertIs(type(caught.exception.gap), int)
        self.assertEqual(caught.exception.gap, positive[0])

    def test_walkers(self):
        self.assertIsInstance(RoundPlanner(), Planner)
        self.assertIs(RoundPlanner().walkers, None)
        with self.assertRaises(AttributeError):
            RoundPlanner().walkers = 2
        with self.assertRaises(TypeError):
            RoundPlanner(walkers=2)

    def test_picked_rounds(self):
        for pairs, number in [([], 0), ([(4, 4)], 1), ([(4, 4)] * 40, 1), ([(4, 4), (5, 5)], 2), ([(5, 4), (5, 5)], 1),
                              ([(5, 4), (6, 6)], 2), ([(0, 5), (5, 0), (3, 2)], 2), ([(0, 5), (5, 0), (3, 3)], 2),
                              ([(30, 0), (3, 3), (20, 20)], 1), ([(0, 30), (30, 0), (3, 3), (20, 20)], 3),
                              ([(3, 0), (3, 2), (0, 3)], 1), ([(0, 1), (1, 0), (29, 30), (30, 29)], 2)]:
            with self.subTest(pairs):
                self.assert_rounds(pairs, number)

    def test_no_rounds(self):
        for pairs, gap in [([(0, 1)], 0), ([(29, 30)], 29), ([(0, 5), (3, 0)], 3), ([(5, 6), (6, 5), (5, 6)], 5),
                           ([(4, 0), (9, 20), (0, 9)], 4)]:
            with self.subTest(pairs):
                self.assertEqual([number > 0 for number in excess(pairs)].index(True), gap)
                self.assert_no_rounds(pairs)

    def test_small_desks_against_the_search(self):
        random = Random("rounds")
        desks = small_desks("rounds", 150) + [balanced(random, random.randint(1, 6)) for _ in range(150)]
        for pairs in desks:
            with self.subTest(pairs):
                number = search.fewest_rounds(pairs)
                if number is None:
                    self.assert_no_rounds(pairs)
                else:
                    self.assert_rounds(pairs, number)

    def test_large_desks(self):
        random = Random("large rounds")
        numbers = []
        for pairs in large_desks("rounds", 100) + [balanced(random, 40) for _ in range(40)]:
            with self.subTest(pairs):
                if max(excess(pairs)) > 0:
                    self.assert_no_rounds(pairs)
                else:
                    numbers.append(len(RoundPlanner()(desk_of(pairs))))
                    self.assert_rounds(pairs, numbers[-1])
                    # Seen upside down, the fewest number is the same.
                    self.assertEqual(len(RoundPlanner()(desk_of(pairs).turned())), numbers[-1])
        self.assertGreater(len(numbers), 30)

    def test_rounds_of_tickets_that_hold_nothing_together(self):
        self.assert_rounds([(height, height) for height in HEIGHTS], 31)
        self.assert_rounds([(height, height) for height in HEIGHTS] + [(30, 0)], 1)
        self.assert_rounds([(height, height) for height in HEIGHTS] + [(20, 10)], 21)

    def test_sums_of_desks(self):
        # Two desks without a common height fall into the rounds of both.
        one = [(3, 0), (0, 3), (2, 2)]
        other = [(10, 8), (12, 9), (30, 30)]
        self.assert_rounds(one, 2)
        self.assert_rounds(other, 2)
        self.assert_rounds(one + other, 4)

    def test_the_desk_by_name(self):
        self.assertEqual(len(RoundPlanner()(desk=desk_of([(4, 4)]))), 1)


if __name__ == "__main__":
    unittest.main()
