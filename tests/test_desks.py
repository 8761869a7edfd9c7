import unittest
from operator import add, ge, getitem, gt, le, lt, mul, neg, sub

from climbtickets.desks import Desk, Profile
from climbtickets.errors import InvalidDesk, InvalidNumber, InvalidProfile, MissingTicket
from climbtickets.tickets import Row, Ticket
from samples import HUGE, STRANGE


def pairs_of(desk):
    return [(ticket.x, ticket.y) for ticket in desk.tickets]


def profile_with(**changes):
    """The profile of zeros but for the gaps that are given as g0=.., g29=.."""
    return Profile(*[changes.get(f"g{gap}", 0) for gap in range(30)])


class ProfileTest(unittest.TestCase):
    def assert_invalid(self, spot, *values):
        with self.assertRaises(InvalidProfile) as caught:
            Profile(*values)
        self.assertIs(type(caught.exception), InvalidProfile)
        self.assertEqual(caught.exception.spot, spot)
        self.assertIs(type(caught.exception.spot), type(spot))

    def test_number_of_gaps(self):
        self.assertEqual(Profile.GAPS, 30)
        self.assertEqual(Profile.level(0).GAPS, 30)

    def test_properties(self):
        numbers = tuple(range(-10, 20))
        profile = Profile(*numbers)
        self.assertIs(type(profile.numbers), tuple)
        self.assertEqual(profile.numbers, numbers)
        self.assertEqual(profile.peak, 19)
        self.assertEqual((profile.numbers, profile.peak), (profile.numbers, profile.peak))

    def test_peak(self):
        self.assertEqual(profile_with(g0=-5, g7=4, g29=3).peak, 4)
        self.assertEqual(profile_with(g29=3).peak, 3)
        self.assertEqual(profile_with(g0=3).peak, 3)
        self.assertEqual(Profile.level(-7).peak, -7)
        self.assertEqual(profile_with(g3=HUGE, g4=HUGE + 1).peak, HUGE + 1)
        self.assertEqual((Profile.level(-HUGE) + profile_with(g3=1)).peak, 1 - HUGE)

    def test_properties_cannot_be_assigned(self):
        for name in ("numbers", "peak"):
            with self.assertRaises(AttributeError):
                setattr(Profile.level(0), name, 1)

    def test_wrong_number_of_numbers(self):
        for many in (0, 1, 29, 31, 60):
            self.assert_invalid(None, *[0] * many)
            for title, wrong in STRANGE:
                with self.subTest(title, many=many):
                    self.assert_invalid(None, *[wrong] * many)

    def test_values_that_are_no_integers(self):
        others = [("ticket", Ticket(0, 1)), ("profile", Profile.level(1))]
        for title, wrong in STRANGE + others:
            for spot in (0, 1, 15, 28, 29):
                with self.subTest(title, spot=spot):
                    values = [5] * 30
                    values[spot] = wrong
                    self.assert_invalid(spot, *values)
                    self.assert_invalid(spot, *values[:spot + 1], *[None] * (29 - spot))

    def test_level(self):
        for number in (0, 1, -1, 31, HUGE, -HUGE):
            profile = Profile.level(number)
            self.assertIs(type(profile), Profile)
            self.assertEqual(profile.numbers, (number,) * 30)
        self.assertEqual(Profile.level(number=3), Profile(*[3] * 30))
        self.assertEqual(Profile.level(1).level(2), Profile.level(2))

    def test_level_of_no_integer(self):
        for title, wrong in STRANGE + [("profile", Profile.level(1))]:
            with self.subTest(title):
                with self.assertRaises(InvalidNumber) as caught:
                    Profile.level(wrong)
                self.assertIs(caught.exception.value, wrong)

    def test_arithmetic(self):
        one = Profile(*range(30))
        other = Profile(*[n * n - HUGE for n in range(30)])
        self.assertEqual((one + other).numbers, tuple([n + n * n - HUGE for n in range(30)]))
        self.assertEqual((one - other).numbers, tuple([n - n * n + HUGE for n in range(30)]))
        self.assertEqual((-one).numbers, tuple([-n for n in range(30)]))
        for result in (one + other, one - other, -one):
            self.assertIs(type(result), Profile)

    def test_arithmetic_leaves_its_operands_as_they_are(self):
        one = Profile(*range(30))
        other = Profile.level(4)
        kept = one
        one += other
        one -= Profile.level(1)
        -one
        self.assertEqual(one.numbers, tuple(range(3, 33)))
        self.assertEqual(kept.numbers, tuple(range(30)))
        self.assertEqual(other.numbers, (4,) * 30)

    def test_equality(self):
        self.assertTrue(Profile.level(2) == Profile(*[2] * 30))
        self.assertFalse(Profile.level(2) != Profile.level(2))
        for gap in ("g0", "g15", "g29"):
            self.assertFalse(Profile.level(0) == profile_with(**{gap: 1}))
            self.assertTrue(Profile.level(0) != profile_with(**{gap: 1}))

    def test_equality_with_other_values(self):
        for title, other in STRANGE + [("numbers", (0,) * 30), ("integer", 0), ("desk", Desk())]:
            with self.subTest(title):
                self.assertIs(Profile.level(0) == other, False)
                self.assertIs(Profile.level(0) != other, True)

    def test_comparison(self):
        zero = Profile.level(0)
        higher = profile_with(g29=1)
        lower = profile_with(g0=-1)
        mixed = profile_with(g0=1, g29=-1)
        cases = [
            (zero, zero, True, False), (zero, Profile.level(0), True, False),
            (zero, higher, True, True), (higher, zero, False, False),
            (lower, zero, True, True), (zero, lower, False, False), (lower, higher, True, True),
            (zero, mixed, False, False), (mixed, zero, False, False), (mixed, -mixed, False, False),
            (Profile.level(-HUGE), Profile.level(HUGE), True, True),
        ]
        for one, other, at_most, below in cases:
            self.assertIs(one <= other, at_most)
            self.assertIs(other >= one, at_most)
            self.assertIs(one < other, below)
            self.assertIs(other > one, below)

    def test_operators_that_are_not_described(self):
        profile = Profile.level(0)
        for sign in (lt, gt, le, ge, add, sub, mul):
            for title, other in STRANGE + [("desk", Desk()), ("integer", 1), ("ticket", Ticket(0, 1))]:
                if title != "refusing":
                    with self.subTest(sign=sign.__name__, other=title):
                        with self.assertRaises(TypeError):
                            sign(profile, other)
        with self.assertRaises(TypeError):
            profile * profile
        with self.assertRaises(TypeError):
            len(profile)

    def test_contains(self):
        profile = profile_with(g0=7, g1=1, g29=-HUGE)
        for number in (7, 1, 0, -HUGE):
            self.assertIs(number in profile, True)
        for number in (2, -1, HUGE):
            self.assertIs(number in profile, False)
        for title, value in STRANGE + [("profile", profile)]:
            with self.subTest(title):
                self.assertIs(value in profile, False)

    def test_items(self):
        profile = Profile(*range(100, 130))
        self.assertEqual([profile[gap] for gap in range(30)], list(range(100, 130)))
        for title, at in STRANGE + [("30", 30), ("-1", -1), ("-30", -30), ("huge", HUGE), ("-huge", -HUGE)]:
            with self.subTest(title):
                with self.assertRaises(InvalidNumber) as caught:
                    getitem(profile, at)
                self.assertIs(caught.exception.value, at)

    def test_turned(self):
        profile = Profile(*range(30))
        self.assertIs(type(profile.turned()), Profile)
        self.assertEqual(profile.turned().numbers, tuple(range(29, -1, -1)))
        self.assertEqual(profile.turned().turned(), profile)
        self.assertEqual(profile.numbers, tuple(range(30)))


class DeskTest(unittest.TestCase):
    def assert_invalid(self, spot, make, *values):
        with self.assertRaises(InvalidDesk) as caught:
            make(*values)
        self.assertIs(type(caught.exception), InvalidDesk)
        self.assertEqual(caught.exception.spot, spot)
        self.assertIs(type(caught.exception.spot), type(spot))

    def test_greatest_number_of_tickets(self):
        self.assertEqual(Desk.MAX_TICKETS, 40)
        self.assertEqual(Desk().MAX_TICKETS, 40)

    def test_no_tickets(self):
        desk = Desk()
        self.assertEqual(desk.tickets, ())
        self.assertEqual(desk.excess, Profile.level(0))
        self.assertIsNone(desk.lowest)
        self.assertIsNone(desk.highest)
        self.assertEqual(len(desk), 0)
        self.assertIs(bool(desk), False)
        self.assertEqual(desk.turned(), desk)
        self.assertEqual(desk + desk, desk)
        self.assertEqual(desk, Desk.of_pairs())

    def test_properties(self):
        tickets = (Ticket(3, 7), Ticket(9, 2), Ticket(3, 7), Ticket(5, 5))
        desk = Desk(*tickets)
        self.assertIs(type(desk.tickets), tuple)
        self.assertEqual(desk.tickets, tickets)
        self.assertIs(desk.tickets[2], tickets[2])
        self.assertEqual((desk.lowest, desk.highest), (2, 9))
        self.assertEqual(len(desk), 4)
        self.assertIs(bool(desk), True)

    def test_properties_give_the_same_again(self):
        desk = Desk.of_pairs((3, 7), (9, 2))
        for name in ("tickets", "excess", "lowest", "highest"):
            self.assertEqual(getattr(desk, name), getattr(desk, name))

    def test_properties_cannot_be_assigned(self):
        for name in ("tickets", "excess", "lowest", "highest"):
            with self.subTest(name):
                with self.assertRaises(AttributeError):
                    setattr(Desk(), name, 1)

    def test_lowest_and_highest(self):
        for pairs in (((0, 30),), ((30, 0),), ((4, 4),), ((0, 0),), ((5, 9), (3, 4)), ((9, 5), (4, 3), (7, 11))):
            heights = [height for pair in pairs for height in pair]
            desk = Desk.of_pairs(*pairs)
            self.assertEqual((desk.lowest, desk.highest), (min(heights), max(heights)))

    def test_excess(self):
        desk = Desk.of_pairs((0, 30), (0, 1), (30, 29), (30, 28), (7, 7), (12, 10), (10, 12), (20, 19))
        expected = [1] * 30
        expected[0] += 1
        expected[29] -= 2
        expected[28] -= 1
        expected[19] -= 1
        self.assertIs(type(desk.excess), Profile)
        self.assertEqual(desk.excess.numbers, tuple(expected))

    def test_excess_of_one_ticket(self):
        for x in range(31):
            for y in range(31):
                expected = [1 if x <= gap < y else -1 if y <= gap < x else 0 for gap in range(30)]
                self.assertEqual(Desk(Ticket(x, y)).excess.numbers, tuple(expected))

    def test_excess_of_equal_tickets(self):
        self.assertEqual(Desk(*[Ticket(0, 30)] * 40).excess, Profile.level(40))
        self.assertEqual(Desk(*[Ticket(30, 0)] * 40).excess, Profile.level(-40))

    def test_excess_of_two_desks_together(self):
        one = Desk.of_pairs((0, 5), (7, 2), (3, 3))
        other = Desk.of_pairs((1, 30), (7, 2), (29, 3))
        self.assertEqual((one + other).excess, one.excess + other.excess)

    def test_numbers_of_tickets(self):
        ticket = Ticket(0, 5)
        self.assertEqual(len(Desk(*[ticket] * 39)), 39)
        self.assertEqual(len(Desk(*[ticket] * 40)), 40)
        self.assert_invalid(None, Desk, *[ticket] * 41)
        self.assert_invalid(None, Desk, *[ticket] * 1000)
        self.assertIs(Desk.is_desk(*[ticket] * 40), True)
        self.assertIs(Desk.is_desk(*[ticket] * 41), False)

    def test_values_that_are_no_tickets(self):
        ticket = Ticket(0, 5)
        others = [("integer", 5), ("row", Row(ticket)), ("desk", Desk(ticket))]
        for title, wrong in STRANGE + others:
            for spot in (0, 1, 20, 39):
                with self.subTest(title, spot=spot):
                    self.assert_invalid(spot, Desk, *[ticket] * spot, wrong)
                    self.assert_invalid(spot, Desk, *[ticket] * spot, wrong, *[None] * (39 - spot))
                    self.assert_invalid(spot, Desk, *[ticket] * spot, wrong, *[ticket] * (39 - spot))
                    self.assert_invalid(None, Desk, *[ticket] * spot, wrong, *[ticket] * (40 - spot))
                    self.assertIs(Desk.is_desk(*[ticket] * spot, wrong), False)
                    self.assertIs(Desk.is_desk(wrong, *[ticket] * spot), False)

    def test_is_desk(self):
        self.assertIs(Desk.is_desk(), True)
        self.assertIs(Desk.is_desk(Ticket(0, 1)), True)
        self.assertIs(Desk().is_desk(Ticket(0, 1), Ticket(0, 1)), True)
        self.assertIs(Desk().is_desk((0, 1)), False)

    def test_of_pairs(self):
        pairs = [(0, 30), (30, 0), (5, 5), (0, 30)]
        desk = Desk.of_pairs(*pairs)
        self.assertIs(type(desk), Desk)
        self.assertEqual(pairs_of(desk), pairs)
        self.assertEqual(len(Desk.of_pairs(*[(0, 1)] * 40)), 40)
        self.assertEqual(Desk().of_pairs((0, 1)), Desk(Ticket(0, 1)))

    def test_of_pairs_with_too_many(self):
        self.assert_invalid(None, Desk.of_pairs, *[(0, 1)] * 41)
        self.assert_invalid(None, Desk.of_pairs, *[(0, 1)] * 1000)
        for spot in (0, 39, 40, 41):
            self.assert_invalid(spot, Desk.of_pairs, *[(0, 1)] * spot, (0, 31), *[(0, 1)] * 50)
            self.assert_invalid(spot, Desk.of_pairs, *[(0, 1)] * spot, None, None)

    def test_of_pairs_with_values_that_are_no_pairs_of_heights(self):
        wrongs = [("-1", (-1, 0)), ("31", (0, 31)), ("True", (True, 5)), ("False", (5, False)), ("list", [0, 1]),
                  ("three", (0, 1, 2)), ("ticket", Ticket(0, 1)), ("texts", ("0", "1")), ("huge", (0, HUGE)),
                  ("integer", 5), ("row", Row(Ticket(0, 1)))]
        wrongs += [(title, value) for title, value in STRANGE if title != "pair"]
        wrongs += [(f"{title} below", (value, 0)) for title, value in STRANGE]
        wrongs += [(f"{title} above", (0, value)) for title, value in STRANGE]
        for title, wrong in wrongs:
            for spot in (0, 1, 39, 45):
                with self.subTest(title, spot=spot):
                    self.assert_invalid(spot, Desk.of_pairs, *[(0, 1)] * spot, wrong)
                    self.assert_invalid(spot, Desk.of_pairs, *[(0, 1)] * spot, wrong, None, (0, 1))

    def test_equality(self):
        one = Desk.of_pairs((0, 5), (5, 0))
        self.assertTrue(one == Desk.of_pairs((0, 5), (5, 0)))
        self.assertFalse(one != Desk.of_pairs((0, 5), (5, 0)))
        for other in (Desk.of_pairs((5, 0), (0, 5)), Desk.of_pairs((0, 5)), Desk(), one + Ticket(5, 0)):
            self.assertFalse(one == other)
            self.assertTrue(one != other)

    def test_equality_with_other_values(self):
        tickets = (Ticket(0, 5),)
        others = [("tuple of tickets", tickets), ("ticket", tickets[0]), ("row", Row(*tickets)), ("integer", 0)]
        for title, other in STRANGE + others:
            with self.subTest(title):
                self.assertIs(Desk(*tickets) == other, False)
                self.assertIs(Desk(*tickets) != other, True)
                self.assertIs(Desk() == other, False)

    def test_comparison(self):
        one = Desk.of_pairs((0, 5), (5, 0))
        cases = [
            (one, one, True), (one, Desk.of_pairs((5, 0), (0, 5)), True), (Desk(), one, True), (Desk(), Desk(), True),
            (one, Desk(), False), (one, Desk.of_pairs((5, 0), (3, 3), (0, 5)), True),
            (one, Desk.of_pairs((0, 5)), False), (one, Desk.of_pairs((0, 5), (0, 5)), False),
            (Desk.of_pairs((0, 5), (0, 5)), one, False), (one + one, one, False), (one, one + one, True),
            (Desk.of_pairs((0, 5), (0, 5)), one + one, True), (one + one + Ticket(0, 5), one + one, False),
            (Desk.of_pairs((0, 5)), Desk.of_pairs((1, 5)), False), (Desk.of_pairs((0, 5)), Desk.of_pairs((0, 4)), False),
            (Desk(*[Ticket(0, 0)] * 40), Desk(*[Ticket(0, 0)] * 39), False),
            (Desk(*[Ticket(0, 0)] * 39), Desk(*[Ticket(0, 0)] * 40), True),
        ]
        for less, more, expected in cases:
            self.assertIs(less <= more, expected)
            self.assertIs(more >= less, expected)

    def test_operators_that_are_not_described(self):
        desk = Desk.of_pairs((0, 5))
        row = Row(Ticket(0, 5))
        for sign in (lt, gt, le, ge, add, sub, mul):
            for title, other in STRANGE + [("row", row), ("integer", 1), ("profile", desk.excess)]:
                if title != "refusing":
                    with self.subTest(sign=sign.__name__, other=title):
                        with self.assertRaises(TypeError):
                            sign(desk, other)
        for sign in (lt, gt, sub, mul):
            with self.assertRaises(TypeError):
                sign(desk, desk)
        for sign in (lt, gt, le, ge):
            with self.assertRaises(TypeError):
                sign(desk, Ticket(0, 5))
        for other in (desk, row):
            for sign in (add, sub):
                with self.assertRaises(TypeError):
                    sign(Ticket(0, 5), other)
        with self.assertRaises(TypeError):
            neg(desk)

    def test_contains(self):
        desk = Desk.of_pairs((0, 5), (5, 0), (5, 0))
        self.assertIs(Ticket(5, 0) in desk, True)
        self.assertIs(Ticket(0, 5) in desk, True)
        self.assertIs(Ticket(0, 4) in desk, False)
        self.assertIs(Ticket(0, 5) in Desk(), False)
        for title, value in STRANGE + [("integer", 0), ("desk", desk), ("row", Row())]:
            with self.subTest(title):
                self.assertIs(value in desk, False)
                self.assertIs(value in Desk(), False)

    def test_items(self):
        desk = Desk.of_pairs((0, 5), (5, 0), (3, 2))
        self.assertEqual([(desk[n].x, desk[n].y) for n in range(3)], [(0, 5), (5, 0), (3, 2)])
        for title, at in STRANGE + [("3", 3), ("-1", -1), ("-3", -3), ("huge", HUGE), ("-huge", -HUGE)]:
            with self.subTest(title):
                with self.assertRaises(InvalidNumber) as caught:
                    getitem(desk, at)
                self.assertIs(caught.exception.value, at)
        for at in (0, -1, 1):
            with self.assertRaises(InvalidNumber):
                Desk()[at]

    def test_sum(self):
        desk = Desk.of_pairs((0, 5), (5, 0))
        self.assertEqual(pairs_of(desk + Desk.of_pairs((0, 5), (1, 1))), [(0, 5), (5, 0), (0, 5), (1, 1)])
        self.assertEqual(pairs_of(desk + Ticket(0, 5)), [(0, 5), (5, 0), (0, 5)])
        self.assertEqual(desk + Desk(), desk)
        self.assertEqual(Desk() + desk, desk)
        self.assertIs(type(desk + desk), Desk)
        self.assertIs(type(desk + Ticket(0, 1)), Desk)
        self.assertEqual(pairs_of(desk), [(0, 5), (5, 0)])

    def test_sum_of_too_many(self):
        desk = Desk.of_pairs(*[(0, 1)] * 39)
        two = Desk.of_pairs((0, 1), (0, 1))
        self.assertEqual(len(desk + Ticket(0, 1)), 40)
        self.assertEqual(len(desk + Desk(Ticket(0, 1))), 40)
        self.assert_invalid(None, add, desk, two)
        self.assert_invalid(None, add, desk + Ticket(0, 1), Ticket(0, 1))
        self.assertEqual((len(desk), len(two)), (39, 2))

    def test_difference(self):
        desk = Desk.of_pairs((1, 1), (0, 5), (2, 2), (0, 5))
        self.assertEqual(pairs_of(desk - Ticket(0, 5)), [(1, 1), (2, 2), (0, 5)])
        self.assertEqual(pairs_of(desk - Ticket(0, 5) - Ticket(0, 5)), [(1, 1), (2, 2)])
        self.assertEqual(pairs_of(desk - Ticket(1, 1)), [(0, 5), (2, 2), (0, 5)])
        self.assertEqual(Desk(Ticket(0, 5)) - Ticket(0, 5), Desk())
        self.assertIs(type(desk - Ticket(0, 5)), Desk)
        self.assertEqual(pairs_of(desk), [(1, 1), (0, 5), (2, 2), (0, 5)])

    def test_difference_takes_the_first_of_equal_tickets(self):
        first, second = Ticket(0, 5), Ticket(0, 5)
        left = Desk(first, second) - Ticket(0, 5)
        self.assertIs(left[0], second)

    def test_difference_with_a_missing_ticket(self):
        for desk in (Desk(), Desk.of_pairs((5, 0)), Desk.of_pairs((0, 4), (1, 5))):
            ticket = Ticket(0, 5)
            with self.assertRaises(MissingTicket) as caught:
                desk - ticket
            self.assertIs(caught.exception.value, ticket)

    def test_turned(self):
        desk = Desk.of_pairs((0, 5), (7, 2), (30, 30), (0, 5))
        turned = desk.turned()
        self.assertIs(type(turned), Desk)
        self.assertEqual(pairs_of(turned), [(25, 30), (28, 23), (0, 0), (25, 30)])
        self.assertEqual(turned.turned(), desk)
        self.assertEqual(turned.excess, desk.excess.turned())
        self.assertEqual(pairs_of(desk), [(0, 5), (7, 2), (30, 30), (0, 5)])


if __name__ == "__main__":
    unittest.main()
