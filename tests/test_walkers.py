import unittest
from random import Random
from time import perf_counter

import search
from climbtickets.desks import Desk
from climbtickets.errors import InvalidAnswer, InvalidNumber, TooFew, TooMany
from climbtickets.plans import Plan
from climbtickets.walkers import Planner, check_reason, fewest, reason_for
from definitions import excess, is_island, is_row, is_whole, most, number_shown, pairs_of
from drawn import PICKED, large_desks, small_desks
from nearly import nearly_forms, nearly_gaps, nearly_heights
from samples import HUGE, STRANGE

SIZES = {"none": 1, "one": 1, "gap": 2, "island": 3}

ISLAND = [(0, 5), (2, 4), (4, 2)]


def desk_of(pairs):
    return Desk.of_pairs(*pairs)


def upside_down(pairs):
    return [(30 - y, 30 - x) for x, y in pairs]


class WalkersTest(unittest.TestCase):
    def assert_reason(self, pairs, reason):
        """A reason of the right kind, as the definitions say, and as check_reason says."""
        self.assertIs(type(reason), tuple)
        self.assertEqual(len(reason), SIZES[reason[0]])
        for value in reason[1:2]:
            self.assertTrue(is_whole(value))
        shown = number_shown(pairs, reason)
        self.assertIsNotNone(shown)
        self.assertEqual(check_reason(desk_of(pairs), reason), shown)
        if not pairs:
            self.assertEqual(reason, ("none",))
        elif reason[0] == "island":
            self.assertTrue(is_island(pairs, *reason[1:]))
        elif max(excess(pairs)) > 0:
            self.assertEqual((reason[0], excess(pairs)[reason[1]]), ("gap", most(pairs)))
        else:
            self.assertEqual(reason, ("one",))
        return shown

    def assert_plan(self, pairs, desk, plan, number):
        self.assertIs(type(plan), Plan)
        self.assertEqual(plan.desk, desk)
        self.assertEqual(len(plan), number)
        rows = [pairs_of(row) for row in plan.rows]
        self.assertTrue(all(rows))
        self.assertTrue(all(is_row(row) for row in rows))
        self.assertEqual(sorted(pair for row in rows for pair in row), sorted(pairs))
        self.assertTrue(Plan.is_plan(desk, *plan.rows))
        ends = sum(row[-1][1] - row[0][0] for row in rows)
        self.assertEqual(plan.climb, ends - sum(y - x for x, y in pairs))


class FewestTest(WalkersTest):
    def test_picked_desks(self):
        numbers = [fewest(desk_of(pairs)) for pairs in PICKED]
        self.assertEqual(numbers, [0, 1, 1, 1, 1, 1, 2, 1, 2, 1, 1, 1, 1, 2, 2, 3, 3, 1, 1, 1, 1, 1, 1, 2, 1, 2])

    def test_kinds_of_reasons(self):
        for pairs, kind in [([], "none"), ([(0, 0)], "one"), ([(30, 0)], "one"), ([(0, 5)], "gap"),
                            ([(0, 5), (5, 0)], "one"), ([(0, 5), (5, 5)], "gap"), ([(0, 5), (3, 3)], "island"),
                            (ISLAND, "island"), ([(0, 5), (0, 5), (4, 3)], "island"),
                            ([(0, 5), (0, 5), (5, 3)], "gap")]:
            self.assertEqual(reason_for(desk_of(pairs))[0], kind)

    def test_an_island_shows_one_row_more(self):
        gap, heights = reason_for(desk_of(ISLAND))[1:]
        self.assertTrue(set(heights) >= {2, 4})
        self.assertFalse(set(heights) & {0, 5})
        self.assertIn(gap, range(5))
        self.assertEqual(fewest(desk_of(ISLAND)), 2)

    def test_small_desks_against_the_search(self):
        for pairs in small_desks("fewest", 600):
            with self.subTest(pairs):
                number = search.fewest_rows(pairs)
                self.assertEqual(fewest(desk_of(pairs)), number)
                reason = reason_for(desk_of(pairs))
                self.assertEqual(self.assert_reason(pairs, reason), number)
                self.assertIs(reason[0] == "island", bool(search.islands(pairs)))

    def test_seven_tickets_against_the_search(self):
        for pairs in small_desks("seven tickets", 40, most=7):
            with self.subTest(pairs):
                self.assertEqual(fewest(desk_of(pairs)), search.fewest_rows(pairs))

    def test_large_desks(self):
        for pairs in large_desks("reasons", 200):
            with self.subTest(pairs):
                desk = desk_of(pairs)
                number = self.assert_reason(pairs, reason_for(desk))
                self.assertEqual(fewest(desk), number)
                # The plan shows that so many are enough, the reason that fewer are not.
                self.assert_plan(pairs, desk, Planner()(desk), number)

    def test_upside_down(self):
        for pairs in small_desks("turned", 100) + large_desks("turned", 60):
            with self.subTest(pairs):
                turned = desk_of(pairs).turned()
                self.assertEqual(fewest(turned), fewest(desk_of(pairs)))
                self.assertEqual(reason_for(turned)[0], reason_for(desk_of(pairs))[0])
                self.assert_reason(upside_down(pairs), reason_for(turned))

    def test_sums_of_desks(self):
        desks = small_desks("sums", 100, most=3)
        for one, other in zip(desks, desks[::-1]):
            with self.subTest(one=one, other=other):
                both = desk_of(one) + desk_of(other)
                if len(both) <= 7:
                    self.assertEqual(fewest(both), search.fewest_rows(one + other))
                self.assertEqual(fewest(both), self.assert_reason(one + other, reason_for(both)))
                self.assertLessEqual(fewest(both), fewest(desk_of(one)) + fewest(desk_of(other)))

    def test_the_same_again(self):
        desk = desk_of(ISLAND)
        self.assertEqual(reason_for(desk), reason_for(desk))
        self.assertEqual(desk, desk_of(ISLAND))

    def test_parameter_names(self):
        self.assertEqual(fewest(desk=desk_of(ISLAND)), 2)
        self.assertEqual(reason_for(desk=Desk()), ("none",))
        self.assertEqual(check_reason(desk=Desk(), answer=("none",)), 0)


class CheckReasonTest(WalkersTest):
    def assert_invalid(self, pairs, answer, part):
        desk = desk_of(pairs)
        with self.assertRaises(InvalidAnswer) as caught:
            check_reason(desk, answer)
        self.assertIs(type(caught.exception), InvalidAnswer)
        self.assertIs(type(caught.exception.part), str)
        self.assertEqual(caught.exception.part, part)
        self.assertEqual(desk, desk_of(pairs))

    def assert_as_defined(self, pairs, answer):
        """An answer of the right form is accepted if it is as described, and only then."""
        shown = number_shown(pairs, answer)
        if shown is None:
            self.assert_invalid(pairs, answer, answer[0])
        else:
            self.assertEqual(check_reason(desk_of(pairs), answer), shown)

    def test_none(self):
        for pairs in PICKED:
            self.assertEqual(check_reason(desk_of(pairs), ("none",)), 0)

    def test_one(self):
        self.assert_invalid([], ("one",), "one")
        for pairs in PICKED[1:]:
            self.assertEqual(check_reason(desk_of(pairs), ("one",)), 1)

    def test_gap(self):
        pairs = [(0, 5), (0, 3), (3, 1), (4, 8), (12, 9)]
        numbers = [2, 1, 1, 1, 2, 1, 1, 1]
        for gap, number in enumerate(numbers):
            self.assertEqual(check_reason(desk_of(pairs), ("gap", gap)), number)
        for gap in range(8, 30):
            self.assert_invalid(pairs, ("gap", gap), "gap")
        self.assertEqual(check_reason(desk_of([(29, 30)]), ("gap", 29)), 1)
        self.assert_invalid([(29, 30)], ("gap", -1), "gap")

    def test_gaps_that_are_nearly_right(self):
        for pairs in PICKED:
            for gap in nearly_gaps(1):
                self.assert_as_defined(pairs, ("gap", gap))

    def test_islands(self):
        desk = desk_of(ISLAND)
        for heights in [(2, 3, 4), (1, 2, 3, 4), (2, 4), (1, 2, 4)]:
            for gap in range(5):
                self.assertEqual(check_reason(desk, ("island", gap, heights)), 2)
        self.assertEqual(check_reason(desk_of([(0, 30), (0, 30), (15, 15)]), ("island", 29, (15,))), 3)

    def test_islands_with_a_wrong_gap(self):
        for gap in (5, 6, 29, 30, -1):
            self.assert_invalid(ISLAND, ("island", gap, (2, 3, 4)), "island")

    def test_islands_with_a_border_at_another_gap(self):
        pairs = [(0, 3), (0, 3), (3, 6), (5, 5)]
        self.assertEqual(fewest(desk_of(pairs)), 2)
        self.assert_invalid(pairs, ("island", 0, (5,)), "island")
        self.assert_invalid(ISLAND, ("island", 0, (2, 3, 4, 5)), "island")
        self.assert_invalid(ISLAND, ("island", 0, (2, 3, 4, 6)), "island")

    def test_islands_that_a_ticket_leaves(self):
        self.assert_invalid(ISLAND, ("island", 0, (2, 3)), "island")
        self.assert_invalid(ISLAND, ("island", 0, (3, 4)), "island")
        self.assert_invalid(ISLAND, ("island", 0, (0, 2, 4)), "island")

    def test_islands_without_tickets(self):
        self.assert_invalid(ISLAND, ("island", 0, (3,)), "island")
        self.assert_invalid(ISLAND, ("island", 0, ()), "island")
        self.assert_invalid([], ("island", 0, (3,)), "island")
        self.assert_invalid([], ("island", 0, ()), "island")

    def test_islands_that_more_tickets_leave_upwards(self):
        everything = tuple(range(31))
        self.assert_invalid(ISLAND, ("island", 0, everything), "island")
        self.assert_invalid([(0, 2), (0, 2), (1, 1), (2, 4), (2, 4)], ("island", 1, (0, 2, 4) + everything[5:]), "island")
        self.assert_invalid([(0, 2), (3, 5)], ("island", 0, everything), "island")

    def test_islands_need_the_greatest_excess(self):
        # Nobody needs to climb where the excess is 0, but one walker may.
        self.assert_invalid([(5, 5), (0, 0)], ("island", 0, (0,)), "island")
        self.assert_invalid([(0, 3), (0, 9), (6, 6)], ("island", 5, (6,)), "island")
        self.assert_invalid([(0, 3), (0, 9), (6, 6)], ("island", 0, (6,)), "island")

    def test_islands_that_are_nearly_right(self):
        for pairs in [ISLAND, [(0, 30), (1, 1), (30, 30)], [(1, 3), (1, 3), (2, 2), (0, 1)]]:
            word, gap, heights = reason_for(desk_of(pairs))
            self.assertEqual(word, "island")
            for other in nearly_gaps(gap):
                self.assert_as_defined(pairs, (word, other, heights))
            for others in nearly_heights(heights):
                self.assert_as_defined(pairs, (word, gap, others))
            self.assert_as_defined(pairs, (word, heights, gap))

    def test_small_islands_of_every_kind(self):
        random = Random("islands")
        for pairs in small_desks("islands", 150):
            for _ in range(40):
                heights = tuple(sorted(random.sample(range(31), random.randint(0, 4))))
                ends = tuple(sorted({height for pair in pairs for height in pair if random.random() < 0.6}))
                for chosen in (heights, ends):
                    self.assert_as_defined(pairs, ("island", random.randint(-1, 30), chosen))

    def test_true_in_place_of_one(self):
        pairs = [(0, 30), (1, 1), (0, 30)]
        self.assertEqual(check_reason(desk_of(pairs), ("island", 1, (1,))), 3)
        self.assert_invalid(pairs, ("island", True, (1,)), "island")
        self.assert_invalid(pairs, ("island", 1, (True,)), "island")
        self.assert_invalid(pairs, ("gap", True), "gap")
        self.assert_invalid(pairs, ("gap", False), "gap")

    def test_forms(self):
        answers = [("none",), ("one",), ("gap", 1), ("island", 1, (2, 4))]
        for pairs in ([], ISLAND):
            for answer in answers:
                for wrong in nearly_forms(answer):
                    self.assert_invalid(pairs, wrong, "form")
            for wrong in [("none", 1), ("one", 1), ("gap",), ("gap", 1, (2, 4)), ("island", 1), ("island", 1, (2, 4), 0),
                          ("one", ()), ("none", ()), ("part", (2, 4)), ("form",), (), "none", "one", ["none"]]:
                self.assert_invalid(pairs, wrong, "form")

    def test_values_that_are_too_large(self):
        before = perf_counter()
        many = tuple(range(31)) * 100000
        for answer in [("none",) * 1000000, ("island", 0, many), ("island", many, many), ("gap", many), ("gap", HUGE)]:
            with self.assertRaises(InvalidAnswer):
                check_reason(desk_of(ISLAND), answer)
        self.assertLess(perf_counter() - before, 1)

    def test_the_very_object_in_the_field(self):
        word = "".join(["g", "ap"])
        with self.assertRaises(InvalidAnswer) as caught:
            check_reason(desk_of(ISLAND), (word, 9))
        self.assertIs(caught.exception.part, word)

    def test_answers_stay_as_they_are(self):
        answer = ["island", 0, [2, 4]]
        for wrong in (answer, ("island", 0, answer[2])):
            with self.assertRaises(InvalidAnswer):
                check_reason(desk_of(ISLAND), wrong)
        self.assertEqual(answer, ["island", 0, [2, 4]])


class PlannerTest(WalkersTest):
    def test_walkers(self):
        self.assertIs(Planner().walkers, None)
        self.assertIs(Planner(walkers=None).walkers, None)
        for number in (0, 1, 7, 40):
            self.assertEqual(Planner(walkers=number).walkers, number)
            self.assertIs(type(Planner(walkers=number).walkers), int)
        with self.assertRaises(AttributeError):
            Planner().walkers = 3

    def test_wrong_walkers(self):
        numbers = [("-1", -1), ("41", 41), ("huge", HUGE), ("-huge", -HUGE)]
        for title, value in [each for each in STRANGE if each[0] != "None"] + numbers:
            with self.subTest(title):
                with self.assertRaises(InvalidNumber) as caught:
                    Planner(walkers=value)
                self.assertIs(type(caught.exception), InvalidNumber)
                self.assertIs(caught.exception.value, value)

    def test_walkers_are_passed_by_name(self):
        with self.assertRaises(TypeError):
            Planner(3)

    def test_the_desk_by_name(self):
        desk = desk_of(ISLAND)
        self.assertEqual(len(Planner(walkers=2)(desk=desk)), 2)

    def test_no_tickets(self):
        for planner in (Planner(), Planner(walkers=0)):
            self.assertEqual(planner(Desk()), Plan(Desk()))
        for number in (1, 2, 40):
            with self.assertRaises(TooMany) as caught:
                Planner(walkers=number)(Desk())
            self.assertEqual(caught.exception.limit, 0)
            self.assertIs(type(caught.exception.limit), int)

    def test_every_number_of_walkers_for_small_desks(self):
        for pairs in small_desks("planner", 200):
            with self.subTest(pairs):
                self.assert_every_number(pairs, search.fewest_rows(pairs), range(0, 9))

    def test_every_number_of_walkers_for_large_desks(self):
        for pairs in large_desks("planner", 40):
            with self.subTest(pairs):
                self.assert_every_number(pairs, fewest(desk_of(pairs)), range(0, 41))

    def assert_every_number(self, pairs, least, numbers):
        desk = desk_of(pairs)
        self.assert_plan(pairs, desk, Planner()(desk), least)
        for number in numbers:
            planner = Planner(walkers=number)
            if number < least:
                with self.assertRaises(TooFew) as caught:
                    planner(desk)
                self.assertEqual(self.assert_reason(pairs, caught.exception.reason), least)
            elif number > len(pairs):
                with self.assertRaises(TooMany) as caught:
                    planner(desk)
                self.assertEqual(caught.exception.limit, len(pairs))
            else:
                self.assert_plan(pairs, desk, planner(desk), number)
        self.assertEqual(desk, desk_of(pairs))

    def test_one_planner_for_many_desks(self):
        planner = Planner()
        fixed = Planner(walkers=2)
        for pairs in PICKED:
            desk = desk_of(pairs)
            self.assert_plan(pairs, desk, planner(desk), fewest(desk))
            if fewest(desk) <= 2 <= len(pairs):
                self.assert_plan(pairs, desk, fixed(desk), 2)
        self.assertIs(planner.walkers, None)
        self.assertEqual(fixed.walkers, 2)


if __name__ == "__main__":
    unittest.main()
