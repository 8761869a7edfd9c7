import unittest
from operator import add, ge, getitem, le, neg, sub
from random import Random
from time import perf_counter

import search
from climbtickets.desks import Desk
from climbtickets.errors import InvalidAnswer, InvalidGroup, InvalidNumber, InvalidTrip, NoRow
from climbtickets.groups import Trip, check_group_reason, group_reason, group_trips
from climbtickets.tickets import Row, Ticket
from definitions import (HEIGHTS, climb, climbs_of_group, is_correct_obstacle, is_row, is_whole, pairs_of)
from drawn import balanced, large_desks, small_desks, some_heights
from nearly import nearly_forms, nearly_gaps, nearly_heights
from samples import HUGE, STRANGE, EqualToAll

NO_HEIGHTS = STRANGE + [("-1", -1), ("31", 31), ("huge", HUGE), ("-huge", -HUGE)]

# Walkers from 0 to 5 climb nowhere here, so nobody comes to the height 3.
APART = [(0, 5), (0, 5), (3, 3)]


def desk_of(pairs):
    return Desk.of_pairs(*pairs)


def row_of(*pairs):
    return Row(*[Ticket(x, y) for x, y in pairs])


class TripTest(unittest.TestCase):
    def setUp(self):
        self.row = row_of((2, 4), (6, 0))
        self.trip = Trip(1, self.row, 5)

    def test_properties(self):
        self.assertEqual((self.trip.start, self.trip.row, self.trip.end), (1, self.row, 5))
        self.assertIs(self.trip.row, self.row)
        self.assertEqual(self.trip.climbed, 1 + 2 + 5)
        self.assertIs(type(self.trip.climbed), int)
        for name in ("start", "row", "end", "climbed"):
            with self.assertRaises(AttributeError):
                setattr(self.trip, name, 1)

    def test_climbed(self):
        for start, row, end, number in [(0, Row(), 0, 0), (0, Row(), 30, 30), (4, Row(), 9, 5), (4, row_of((4, 9)), 9, 0),
                                        (3, row_of((4, 9)), 9, 1), (4, row_of((4, 9)), 11, 2),
                                        (0, row_of((30, 0), (30, 0)), 30, 90), (2, row_of((2, 2), (3, 3)), 3, 1)]:
            trip = Trip(start, row, end)
            self.assertEqual(trip.climbed, number)
            self.assertEqual(trip.climbed, end - start - sum(ticket.y - ticket.x for ticket in row.tickets))

    def test_heights_at_the_edges(self):
        trip = Trip(0, row_of((0, 30)), 30)
        self.assertEqual((trip.start, trip.end, trip.climbed), (0, 30, 0))

    def test_wrong_ends(self):
        for title, value in NO_HEIGHTS:
            for row in (Row(), self.row):
                # The start comes first, and both come before what does not fit.
                for arguments in [(value, row, 5), (value, row, value), (value, row, None), (0, row, value),
                                  (30, row, value)]:
                    with self.subTest(title):
                        with self.assertRaises(InvalidNumber) as caught:
                            Trip(*arguments)
                        self.assertIs(type(caught.exception), InvalidNumber)
                        self.assertIs(caught.exception.value, value)
        with self.assertRaises(InvalidNumber) as caught:
            Trip(31, self.row, -1)
        self.assertEqual(caught.exception.value, 31)

    def test_parts_that_do_not_fit(self):
        for start, row, end, part in [(3, self.row, 5, "start"), (3, self.row, 0, "start"), (30, self.row, 30, "start"),
                                      (3, row_of((2, 9)), 0, "start"), (2, row_of((2, 9)), 8, "end"),
                                      (2, row_of((2, 9)), 0, "end"), (4, Row(), 3, "end"), (30, Row(), 0, "end")]:
            with self.subTest(start=start, end=end):
                with self.assertRaises(InvalidTrip) as caught:
                    Trip(start, row, end)
                self.assertIs(type(caught.exception), InvalidTrip)
                self.assertEqual(caught.exception.part, part)

    def test_size_and_truth(self):
        for row in (Row(), row_of((0, 0)), self.row):
            trip = Trip(0, row, 9)
            self.assertEqual(len(trip), len(row))
            self.assertIs(bool(trip), len(row) > 0)

    def test_equality(self):
        self.assertTrue(self.trip == Trip(1, row_of((2, 4), (6, 0)), 5))
        self.assertFalse(self.trip != Trip(1, row_of((2, 4), (6, 0)), 5))
        self.assertTrue(Trip(3, Row(), 3) == Trip(3, Row(), 3))
        for other in [Trip(0, self.row, 5), Trip(1, self.row, 6), Trip(1, row_of((2, 4)), 5), Trip(1, Row(), 5)]:
            self.assertFalse(self.trip == other)
            self.assertTrue(self.trip != other)

    def test_equality_with_other_values(self):
        others = [("parts", (1, self.row, 5)), ("row", self.row), ("ticket", Ticket(1, 5)), ("integer", 1)]
        for title, other in STRANGE + others:
            with self.subTest(title):
                self.assertIs(self.trip == other, False)
                self.assertIs(self.trip != other, True)
                self.assertIs(Trip(0, Row(), 0) == other, False)

    def test_order(self):
        trips = [Trip(0, Row(), 0), Trip(0, Row(), 30), Trip(0, row_of((0, 5)), 5), Trip(0, row_of((0, 5)), 6),
                 Trip(0, row_of((0, 5), (5, 0)), 5), Trip(0, row_of((1, 0)), 0), Trip(1, Row(), 1),
                 Trip(1, row_of((2, 4)), 5), Trip(2, Row(), 2)]
        for at, one in enumerate(trips):
            for other_at, other in enumerate(trips):
                self.assertIs(one < other, at < other_at)
                self.assertIs(one > other, at > other_at)
        self.assertEqual([trip.start for trip in sorted(trips[::-1])], [trip.start for trip in trips])

    def test_tickets_of_trips(self):
        self.assertIs(Ticket(6, 0) in self.trip, True)
        self.assertIs(Ticket(2, 4) in self.trip, True)
        self.assertIs(Ticket(0, 6) in self.trip, False)
        self.assertIs(Ticket(6, 0) in Trip(0, Row(), 9), False)
        others = [("row", self.row), ("trip", self.trip), ("height", 2), ("pair", (2, 4))]
        for title, value in STRANGE + others:
            with self.subTest(title):
                self.assertIs(value in self.trip, False)

    def test_sums(self):
        both = self.trip + Trip(5, row_of((7, 3)), 9)
        self.assertIs(type(both), Trip)
        self.assertEqual((both.start, both.row, both.end), (1, row_of((2, 4), (6, 0), (7, 3)), 9))
        self.assertEqual(both.climbed, self.trip.climbed + 2 + 6)
        self.assertEqual(self.trip, Trip(1, row_of((2, 4), (6, 0)), 5))
        later = self.trip + Trip(8, Row(), 9)
        self.assertEqual((later.start, later.row, later.end, later.climbed), (1, self.row, 9, 8 + 4))
        first = Trip(0, Row(), 1) + self.trip
        self.assertEqual((first.start, first.row, first.end), (0, self.row, 5))
        self.assertEqual(Trip(3, Row(), 3) + Trip(3, Row(), 3), Trip(3, Row(), 3))
        self.assertEqual(Trip(3, Row(), 4) + Trip(9, Row(), 30), Trip(3, Row(), 30))

    def test_sums_that_do_not_join(self):
        for other in [Trip(4, Row(), 30), Trip(0, Row(), 0), Trip(4, row_of((9, 9)), 9)]:
            with self.assertRaises(InvalidTrip) as caught:
                self.trip + other
            self.assertIs(type(caught.exception), InvalidTrip)
            self.assertEqual(caught.exception.part, "join")
        self.assertEqual(self.trip, Trip(1, row_of((2, 4), (6, 0)), 5))

    def test_operators_that_are_not_described(self):
        others = [("row", self.row), ("ticket", Ticket(6, 6)), ("integer", 1), ("parts", (5, Row(), 5))]
        for title, other in STRANGE + others:
            if title != "refusing":
                for sign in (add, le, ge, sub):
                    with self.subTest(sign=sign.__name__, other=title):
                        self.assertRaises(TypeError, sign, self.trip, other)
                with self.subTest(sign="<", other=title):
                    with self.assertRaises(TypeError):
                        self.trip < other
        for sign in (le, ge, sub):
            self.assertRaises(TypeError, sign, self.trip, self.trip)
        self.assertRaises(TypeError, getitem, self.trip, 0)
        self.assertRaises(TypeError, neg, self.trip)
        self.assertRaises(TypeError, iter, self.trip)

    def test_parameter_names(self):
        self.assertEqual(Trip(start=1, row=self.row, end=5), self.trip)


class GroupTest(unittest.TestCase):
    def assert_reason(self, pairs, starts, ends, reason):
        """A reason of the right kind, as the definitions say, and as check_group_reason says."""
        climbs = climbs_of_group(pairs, starts, ends)
        self.assertIs(type(reason), tuple)
        self.assertEqual(len(reason), 2)
        self.assertEqual(reason[0], "gap" if min(climbs) < 0 else "part")
        if reason[0] == "gap":
            self.assertTrue(is_whole(reason[1]))
        self.assertTrue(is_correct_obstacle(pairs, climbs, starts, reason))
        self.assertEqual(check_group_reason(desk_of(pairs), starts, ends, reason), reason[0])

    def assert_trips(self, pairs, starts, ends, trips):
        self.assertIs(type(trips), tuple)
        self.assertEqual(tuple(trip.start for trip in trips), starts)
        self.assertEqual(sorted(trip.end for trip in trips), sorted(ends))
        effort = 0
        for trip in trips:
            self.assertIs(type(trip), Trip)
            row = pairs_of(trip.row)
            self.assertTrue(is_row(row))
            self.assertLessEqual(trip.start, row[0][0] if row else trip.end)
            self.assertLessEqual(row[-1][1] if row else trip.start, trip.end)
            climbed = trip.end - trip.start
            if row:
                climbed = row[0][0] - trip.start + climb(row) + trip.end - row[-1][1]
            self.assertEqual(trip.climbed, climbed)
            effort += climbed
        self.assertEqual(sorted(pair for trip in trips for pair in pairs_of(trip.row)), sorted(pairs))
        self.assertEqual(effort, sum(climbs_of_group(pairs, starts, ends)))

    def assert_answer(self, pairs, starts, ends):
        """Either trips, or a reason why there are none."""
        desk = desk_of(pairs)
        reason = group_reason(desk, starts, ends)
        if reason is None:
            self.assert_trips(pairs, starts, ends, group_trips(desk, starts, ends))
        else:
            self.assert_reason(pairs, starts, ends, reason)
            with self.assertRaises(NoRow) as caught:
                group_trips(desk, starts, ends)
            self.assertIs(type(caught.exception), NoRow)
            self.assert_reason(pairs, starts, ends, caught.exception.reason)
        self.assertEqual(desk, desk_of(pairs))
        return reason

    def test_kinds(self):
        for pairs, starts, ends, kind in [(APART, (0, 0), (5, 5), "part"), (APART, (0, 1), (5, 5), "gap"),
                                          (APART, (0,), (5,), "gap"), (APART, (0, 0), (5, 4), "gap"),
                                          ([], (3, 4), (4, 2), "gap"), ([(4, 4)], (5, 0), (9, 3), "part"),
                                          ([(0, 1)], (1,), (1,), "gap"), ([(9, 9)], (0,) * 40, (8,) * 40, "part")]:
            with self.subTest(pairs=pairs, starts=starts, ends=ends):
                self.assertEqual(group_reason(desk_of(pairs), starts, ends)[0], kind)
                self.assert_answer(pairs, starts, ends)

    def test_no_reason(self):
        for pairs, starts, ends in [(APART, (0, 0, 0), (5, 5, 5)), (APART, (0, 3, 0), (3, 5, 5)), ([], (3, 4), (4, 3)), ([], (0,), (0,)),
                                    ([(4, 4)], (0, 5), (9, 4)), ([(0, 30)] * 40, (0,) * 40, (30,) * 40),
                                    ([(30, 0)] * 40, (30,) * 40, (0,) * 40), ([(30, 0)], (30, 3), (3, 0))]:
            with self.subTest(pairs=pairs, starts=starts, ends=ends):
                self.assertIs(group_reason(desk_of(pairs), starts, ends), None)
                self.assert_answer(pairs, starts, ends)

    def test_trips_without_tickets(self):
        trips = group_trips(Desk(), (7, 2, 2), (2, 9, 5))
        self.assert_trips([], (7, 2, 2), (2, 9, 5), trips)
        self.assertEqual([len(trip) for trip in trips], [0, 0, 0])
        self.assertEqual(trips[0].end, 9)

    def test_small_desks_against_the_search(self):
        random = Random("groups")
        found = {"gap": 0, "part": 0, "trips": 0}
        for pairs in small_desks("groups", 300):
            low = max(0, min([min(pair) for pair in pairs], default=0) - 1)
            high = min(30, max([max(pair) for pair in pairs], default=29) + 1)
            for _ in range(12):
                many = random.randint(1, 3)
                starts = tuple(random.randint(low, high) for _ in range(many))
                ends = tuple(random.randint(low, high) for _ in range(many))
                with self.subTest(pairs=pairs, starts=starts, ends=ends):
                    reason = self.assert_answer(pairs, starts, ends)
                    self.assertIs(reason is None, search.has_trips(pairs, starts, ends))
                    found[reason[0] if reason else "trips"] += 1
        self.assertGreater(min(found.values()), 50)

    def test_groups_of_one_are_walkers_with_ends(self):
        for pairs in small_desks("groups of one", 30):
            possible = search.possible_ends(pairs)
            for begin in HEIGHTS:
                for end in HEIGHTS:
                    reason = group_reason(desk_of(pairs), (begin,), (end,))
                    self.assertIs(reason is None, (begin, end) in possible)

    def test_large_desks(self):
        random = Random("large groups")
        found = {"gap": 0, "part": 0, "trips": 0}
        for pairs in large_desks("groups", 100) + [balanced(random, 40) for _ in range(20)]:
            for many in (1, 2, 5, 20, 39, 40):
                chosen = [(some_heights(random, many), some_heights(random, many)),
                          (tuple(random.randint(0, 9) for _ in range(many)), (30,) * many)]
                # The heights where tickets begin and end, of as many tickets: often nothing is to climb there.
                if many <= len(pairs):
                    some = random.sample(pairs, many)
                    chosen.append((tuple(min(pair) for pair in some), tuple(max(pair) for pair in some)))
                for starts, ends in chosen:
                    with self.subTest(pairs=pairs, starts=starts, ends=ends):
                        reason = self.assert_answer(pairs, starts, ends)
                        found[reason[0] if reason else "trips"] += 1
        self.assertGreater(min(found.values()), 20)

    def test_upside_down(self):
        random = Random("turned groups")
        for pairs in small_desks("turned groups", 80) + large_desks("turned groups", 40):
            for many in (1, 2, 4):
                starts, ends = some_heights(random, many), some_heights(random, many)
                with self.subTest(pairs=pairs, starts=starts, ends=ends):
                    reason = group_reason(desk_of(pairs), starts, ends)
                    turned = group_reason(desk_of(pairs).turned(), tuple(30 - end for end in ends),
                                          tuple(30 - start for start in starts))
                    self.assertEqual(reason and reason[0], turned and turned[0])

    def test_sums_of_desks(self):
        # Two groups that each have trips have them together, with all tickets of both.
        random = Random("sums of groups")
        possible = []
        while len(possible) < 60:
            many = random.randint(1, 3)
            for pairs in small_desks(random.random(), 10):
                starts, ends = some_heights(random, many), some_heights(random, many)
                if group_reason(desk_of(pairs), starts, ends) is None:
                    possible.append((pairs, starts, ends))
        for one, other in zip(possible, possible[1:]):
            pairs, starts, ends = (mine + theirs for mine, theirs in zip(one, other))
            with self.subTest(pairs=pairs, starts=starts, ends=ends):
                self.assertIs(self.assert_answer(pairs, starts, ends), None)

    def test_parameter_names(self):
        desk = desk_of([(0, 5)])
        self.assertEqual(len(group_trips(desk=desk, starts=(0, 3), ends=(3, 5))), 2)
        self.assertIs(group_reason(desk=desk, starts=(0,), ends=(5,)), None)
        self.assertEqual(check_group_reason(desk=desk, starts=(1,), ends=(5,), answer=("gap", 0)), "gap")


class InvalidGroupTest(unittest.TestCase):
    def assert_invalid(self, part, spot, starts, ends):
        desk = desk_of(APART)
        asked = [(group_trips, ()), (group_reason, ()), (check_group_reason, (("gap", 0),)),
                 (check_group_reason, ("no pair",))]
        for function, rest in asked:
            with self.assertRaises(InvalidGroup) as caught:
                function(desk, starts, ends, *rest)
            self.assertIs(type(caught.exception), InvalidGroup)
            self.assertEqual((caught.exception.part, caught.exception.spot), (part, spot))
            self.assertIs(type(caught.exception.spot), type(spot))
        self.assertEqual(desk, desk_of(APART))

    def test_values_that_are_no_tuples_of_heights(self):
        others = [("height", 3), ("list", [0, 0]), ("too many", (0,) * 41), ("very many", (0,) * 1000000),
                  ("too many strange ones", (None,) * 41), ("iterator", iter((0, 0)))]
        for title, value in STRANGE + others:
            spot = None
            if title in ("tuple", "pair"):
                continue
            if title == "many parts":
                spot = 0
            with self.subTest(title):
                self.assert_invalid("starts", spot, value, (5, 5))
                self.assert_invalid("starts", spot, value, value)
                self.assert_invalid("starts", spot, value, (5, 31))
                self.assert_invalid("ends", spot, (0, 0), value)
                self.assert_invalid("ends", spot, (0, 0, 0), value)

    def test_items_that_are_no_heights(self):
        for title, value in NO_HEIGHTS:
            with self.subTest(title):
                self.assert_invalid("starts", 0, (value,), (5,))
                self.assert_invalid("starts", 1, (0, value), (value, value))
                self.assert_invalid("starts", 1, (0, value, value), (5,))
                self.assert_invalid("starts", 39, (0,) * 39 + (value,), [])
                self.assert_invalid("ends", 0, (0,), (value,))
                self.assert_invalid("ends", 2, (0, 0), (5, 30, value))
                self.assert_invalid("ends", 39, (0,), (5,) * 39 + (value,))

    def test_lengths_that_differ(self):
        for starts, ends in [((0,), (5, 5)), ((0, 0), (5,)), ((0,) * 40, (5,) * 39), ((0,), (5,) * 40)]:
            self.assert_invalid("numbers", None, starts, ends)

    def test_forty_walkers(self):
        self.assertEqual(len(group_trips(desk_of(APART), (0,) * 40, (30,) * 40)), 40)
        self.assertEqual(len(group_trips(Desk(), (0,) * 40, (0,) * 40)), 40)
        self.assert_invalid("starts", None, (0,) * 41, (30,) * 41)
        self.assert_invalid("ends", None, (0,) * 40, (30,) * 41)


class CheckGroupReasonTest(unittest.TestCase):
    def assert_invalid(self, pairs, starts, ends, answer, part):
        desk = desk_of(pairs)
        with self.assertRaises(InvalidAnswer) as caught:
            check_group_reason(desk, starts, ends, answer)
        self.assertIs(type(caught.exception), InvalidAnswer)
        self.assertIs(type(caught.exception.part), str)
        self.assertEqual(caught.exception.part, part)
        self.assertEqual(desk, desk_of(pairs))

    def assert_as_defined(self, pairs, starts, ends, answer):
        """A pair of the right form is accepted if it is as described, and only then."""
        if is_correct_obstacle(pairs, climbs_of_group(pairs, starts, ends), starts, answer):
            self.assertEqual(check_group_reason(desk_of(pairs), starts, ends, answer), answer[0])
        else:
            self.assert_invalid(pairs, starts, ends, answer, answer[0])

    def test_gaps(self):
        for starts, ends in [((0, 0), (5, 5)), ((0, 1), (5, 5)), ((0, 0), (3, 9)), ((9, 8), (2, 1)), ((0,), (5,))]:
            for gap in range(-1, 31):
                self.assert_as_defined(APART, starts, ends, ("gap", gap))

    def test_parts(self):
        for heights in [(3,), (1, 3), (1, 2, 3, 4), (3, 4), (3, 6), (3, 4, 29)]:
            self.assertEqual(check_group_reason(desk_of(APART), (0, 0), (5, 5), ("part", heights)), "part")
        for heights in [(), (2,), (0, 3), (0, 3, 5), (3, 5), tuple(HEIGHTS)]:
            self.assert_invalid(APART, (0, 0), (5, 5), ("part", heights), "part")

    def test_parts_with_a_border_that_is_climbed(self):
        self.assertEqual(check_group_reason(desk_of(APART), (0, 0), (5, 6), ("part", (3,))), "part")
        self.assertEqual(check_group_reason(desk_of(APART), (0, 0), (5, 6), ("part", (3, 29))), "part")
        self.assert_invalid(APART, (0, 0), (5, 6), ("part", (3, 6)), "part")

    def test_parts_with_a_start(self):
        pairs = [(4, 4), (7, 7), (9, 9)]
        self.assertEqual(check_group_reason(desk_of(pairs), (4, 9), (9, 4), ("part", (7,))), "part")
        for heights in [(4,), (9,), (4, 7), (7, 9), (4, 7, 9)]:
            self.assert_invalid(pairs, (4, 9), (9, 4), ("part", heights), "part")

    def test_parts_beside_a_negative_number(self):
        pairs = [(3, 3), (10, 12)]
        self.assertEqual(min(climbs_of_group(pairs, (5, 6), (8, 6))), -1)
        self.assertEqual(check_group_reason(desk_of(pairs), (5, 6), (8, 6), ("part", (3,))), "part")
        self.assertEqual(check_group_reason(desk_of(pairs), (5, 6), (8, 6), ("part", (10, 11, 12))), "part")
        self.assert_invalid(pairs, (5, 6), (8, 6), ("part", (10, 12)), "part")

    def test_answers_that_are_nearly_right(self):
        for pairs, starts, ends in [(APART, (0, 0), (5, 5)), ([(4, 4)], (5, 0), (9, 3)), ([(1, 1)], (2,) * 40, (9,) * 40)]:
            word, heights = group_reason(desk_of(pairs), starts, ends)
            self.assertEqual(word, "part")
            for others in nearly_heights(heights):
                self.assert_as_defined(pairs, starts, ends, (word, others))
                self.assert_as_defined(pairs, starts, ends, ("gap", others))
        for pairs, starts, ends in [(APART, (1, 0), (5, 5)), ([(1, 2)], (0,), (1,)), ([], (9, 4), (3, 3))]:
            for other in nearly_gaps(group_reason(desk_of(pairs), starts, ends)[1]):
                self.assert_as_defined(pairs, starts, ends, ("gap", other))
                self.assert_as_defined(pairs, starts, ends, ("part", other))

    def test_parts_of_every_kind(self):
        random = Random("parts of groups")
        found = 0
        for pairs in small_desks("parts of groups", 150):
            for _ in range(30):
                many = random.randint(1, 3)
                starts, ends = some_heights(random, many), some_heights(random, many)
                heights = tuple(sorted({height for pair in pairs for height in pair if random.random() < 0.6}))
                found += is_correct_obstacle(pairs, climbs_of_group(pairs, starts, ends), starts, ("part", heights))
                self.assert_as_defined(pairs, starts, ends, ("part", heights))
        self.assertGreater(found, 50)

    def test_true_in_place_of_one(self):
        self.assertEqual(check_group_reason(desk_of([(1, 1)]), (3, 4), (4, 3), ("part", (1,))), "part")
        self.assert_invalid([(1, 1)], (3, 4), (4, 3), ("part", (True,)), "part")
        self.assertEqual(check_group_reason(Desk(), (2,), (0,), ("gap", 1)), "gap")
        self.assert_invalid([], (2,), (0,), ("gap", True), "gap")
        self.assert_invalid([], (2,), (0,), ("gap", False), "gap")

    def test_forms(self):
        for answer in [("gap", 3), ("part", (3,))]:
            for wrong in nearly_forms(answer):
                self.assert_invalid(APART, (0, 0), (5, 5), wrong, "form")
        for wrong in [("gap",), ("part",), ("gap", 3, 3), ("island", 0, (3,)), ("none",), ("one",), ("form", 3), (),
                      (EqualToAll(), 3)]:
            self.assert_invalid(APART, (0, 0), (5, 5), wrong, "form")

    def test_the_very_object_in_the_field(self):
        word = "".join(["pa", "rt"])
        with self.assertRaises(InvalidAnswer) as caught:
            check_group_reason(desk_of(APART), (0, 0), (5, 5), (word, (0,)))
        self.assertIs(caught.exception.part, word)

    def test_values_that_are_too_large(self):
        before = perf_counter()
        many = tuple(HEIGHTS) * 100000
        for answer in [("part",) * 1000000, ("part", many), ("gap", many), ("gap", HUGE)]:
            with self.assertRaises(InvalidAnswer):
                check_group_reason(desk_of(APART), (0, 0), (5, 5), answer)
        self.assertLess(perf_counter() - before, 1)


if __name__ == "__main__":
    unittest.main()
