import unittest
from itertools import islice
from random import Random
from time import perf_counter

import search
from climbtickets import listing
from climbtickets.desks import Desk
from climbtickets.ends import reason_against
from climbtickets.errors import InvalidNumber, InvalidPlan, LimitExceeded, TooFew
from climbtickets.listing import count_rows, least_climb, rank_of_row, row_by_rank, single_rows
from climbtickets.tickets import Row, Ticket
from climbtickets.walkers import fewest
from definitions import HEIGHTS, climb, is_row, number_shown, pairs_of, total_rise
from drawn import PICKED, balanced, drawn_pairs, large_desks, small_desks
from samples import HUGE, STRANGE

# Each one fits behind each other one.
SEVEN = [(9, height) for height in range(7)]


# Desks with 5,040, 5,040 and 720 single rows.
MANY_ROWS = [
    [(24 + height, height) for height in range(7)],
    SEVEN,
    [(24 + height, height) for height in range(6)],
]

# Desks whose single rows end far above their beginning.
FAR_APART = [
    [(0, 30)],
    [(0, 30), (30, 0), (0, 30)],
    [(0, 10), (10, 20), (20, 30)],
    [(30, 0), (0, 30)] * 19 + [(0, 30)],
    [(0, 5), (5, 0), (3, 2)],
]

# Desks of which each height is to be reached by itself.
FLAT = [
    [(height, height) for height in HEIGHTS],
    [(height, height) for height in range(1, 30)] + [(30, 0)],
    [(height, height) for height in range(1, 30)] + [(30, 0), (0, 30)],
    [(height, height + 15) for height in range(16)] + [(height + 15, height) for height in range(16)],
]


def desk_of(pairs):
    return Desk.of_pairs(*pairs)


def row_of(*pairs):
    return Row(*[Ticket(x, y) for x, y in pairs])


def small_desks_for_rows(seed, many):
    """Desks with many single rows are among them, too."""
    random = Random(seed)
    desks = small_desks(seed, many)
    for _ in range(many):
        desks.append([(max(pair), min(pair)) for pair in small_desks(random.random(), 1)[-1]])
    return desks


def desks_of_seven(random, many):
    """Desks of up to seven tickets of few heights, most of which have some single rows."""
    found = []
    for _ in range(many):
        pairs = drawn_pairs(random, random.randint(1, 7), 0, random.choice([1, 2, 4, 8]))
        if random.random() < 0.7:
            pairs = [(max(pair), min(pair)) for pair in pairs[1:]] + pairs[:1]
        found.append([random.choice(pairs) for _ in pairs] if random.random() < 0.3 else pairs)
    return found


def least_difference(desk):
    """The least end, seen from the begin, between which one walker can use all tickets."""
    return min(end - begin for begin in HEIGHTS for end in HEIGHTS if reason_against(desk, begin, end) is None)


class SingleRowsTest(unittest.TestCase):
    def test_the_limit_is_seven(self):
        self.assertEqual(listing.MAX_LISTED, 7)
        self.assertIs(type(listing.MAX_LISTED), int)

    def test_no_tickets(self):
        self.assertEqual(list(single_rows(Desk())), [Row()])
        self.assertEqual(count_rows(Desk()), 1)
        self.assertEqual(row_by_rank(Desk(), 0), Row())
        self.assertEqual(rank_of_row(Desk(), Row()), 0)

    def test_picked_rows(self):
        self.assertEqual(list(single_rows(desk_of([(0, 2), (2, 0), (1, 1)]))),
                         [row_of((0, 2), (2, 0), (1, 1)), row_of((1, 1), (2, 0), (0, 2))])
        self.assertEqual(list(single_rows(desk_of([(9, 8), (4, 3)]))), [row_of((4, 3), (9, 8))])
        self.assertEqual(list(single_rows(desk_of([(9, 8), (9, 3)]))),
                         [row_of((9, 3), (9, 8)), row_of((9, 8), (9, 3))])

    def test_equal_rows_are_counted_once(self):
        for pairs, number in [([(4, 4)] * 7, 1), ([(4, 4)] * 3 + [(5, 4)] * 2, 10), ([(9, 0)] * 6 + [(9, 1)], 7),
                              ([(9, 0), (9, 0), (9, 1), (9, 1)], 6)]:
            with self.subTest(pairs):
                self.assertEqual(len(search.rows_with_all(pairs)), number)
                self.assertEqual(count_rows(desk_of(pairs)), number)

    def test_no_single_rows(self):
        for pairs in ([(0, 5), (0, 5)], [(0, 5), (3, 3)], [(0, 30), (1, 30), (2, 30)]):
            self.assertEqual(list(single_rows(desk_of(pairs))), [])
            self.assertEqual(count_rows(desk_of(pairs)), 0)
            with self.assertRaises(InvalidNumber):
                row_by_rank(desk_of(pairs), 0)

    def test_small_desks_against_the_search(self):
        found = 0
        for pairs in small_desks_for_rows("rows", 200):
            with self.subTest(pairs):
                self.assert_listed(pairs, search.rows_with_all(pairs))
                found += count_rows(desk_of(pairs)) > 1
        self.assertGreater(found, 80)

    def assert_listed(self, pairs, expected):
        desk = desk_of(pairs)
        rows = list(single_rows(desk))
        self.assertTrue(all(type(row) is Row for row in rows))
        self.assertEqual([tuple(pairs_of(row)) for row in rows], expected)
        self.assertTrue(all(one < other for one, other in zip(rows, rows[1:])))
        self.assertEqual(count_rows(desk), len(expected))
        self.assertIs(type(count_rows(desk)), int)
        for rank in sorted({0, 1, len(rows) // 2, len(rows) - 1}):
            if 0 <= rank < len(rows):
                self.assertEqual(row_by_rank(desk, rank), rows[rank])
                self.assertEqual(rank_of_row(desk, rows[rank]), rank)
                self.assertIs(type(rank_of_row(desk, rows[rank])), int)
                self.assertEqual(rows[rank].climb, rows[rank].end - rows[rank].begin - total_rise(pairs) if pairs else 0)
        self.assertEqual(desk, desk_of(pairs))

    def test_seven_tickets(self):
        for pairs in (SEVEN, SEVEN[::-1], [(0, 30)] + SEVEN[:6], [(3, 3)] * 7, balanced(Random("seven"), 7)):
            with self.subTest(pairs):
                self.assert_listed(pairs, search.rows_with_all(pairs))
        self.assertEqual(count_rows(desk_of(SEVEN)), 5040)

    def test_every_rank(self):
        desk = desk_of(SEVEN[:5])
        rows = list(single_rows(desk))
        self.assertEqual(len(rows), 120)
        self.assert_numbered(desk, rows, range(120))

    def assert_numbered(self, desk, rows, ranks):
        """The functions that do not list the rows agree with the list of all rows."""
        self.assertEqual(count_rows(desk), len(rows))
        for rank in ranks:
            self.assertEqual(row_by_rank(desk, rank), rows[rank])
            self.assertEqual(rank_of_row(desk, rows[rank]), rank)
        for rank in (-1, len(rows)):
            with self.assertRaises(InvalidNumber):
                row_by_rank(desk, rank)

    def test_ranks_of_drawn_desks(self):
        random = Random("ranks")
        numbers = set()
        for pairs in MANY_ROWS + [[(4, 4)] * 7, [(0, 30)] * 7] + desks_of_seven(random, 150):
            with self.subTest(pairs):
                desk = desk_of(random.sample(pairs, len(pairs)))
                rows = list(single_rows(desk))
                numbers.add(len(rows))
                ranks = range(len(rows)) if len(rows) <= 40 else random.sample(range(len(rows)), 40) + [0, len(rows) - 1]
                self.assert_numbered(desk, rows, ranks)
        self.assertLessEqual({0, 1, 2, 720, 5040}, numbers)
        self.assertGreater(len(numbers), 30)

    def test_rows_of_equal_tickets(self):
        desk = desk_of([(9, 2), (9, 1), (9, 2), (9, 1), (9, 1), (4, 4), (12, 12)])
        rows = list(single_rows(desk))
        self.assertEqual(len(rows), len(search.rows_with_all(pairs_of(desk))))
        self.assert_numbered(desk, rows, range(len(rows)))

    def test_many_calls_end_quickly(self):
        for pairs in MANY_ROWS:
            desk = desk_of(pairs)
            last = list(single_rows(desk))[-1]
            before = perf_counter()
            for _ in range(25):
                number = count_rows(desk)
                self.assertEqual(row_by_rank(desk, 0).tickets[0], min(last.tickets))
                self.assertEqual(row_by_rank(desk, number - 1), last)
                self.assertEqual(rank_of_row(desk, last), number - 1)
            # One hundred calls: all three desks have a second each.
            self.assertLess(perf_counter() - before, 1)

    def test_the_order_of_the_tickets_does_not_matter(self):
        random = Random("order")
        for pairs in small_desks_for_rows("order", 30):
            mixed = random.sample(pairs, len(pairs))
            self.assertEqual(list(single_rows(desk_of(mixed))), list(single_rows(desk_of(pairs))))

    def test_rows_one_after_the_other(self):
        desk = desk_of(SEVEN)
        rows = single_rows(desk)
        self.assertIs(iter(rows), rows)
        self.assertEqual(next(rows), row_of(*SEVEN))
        self.assertEqual(pairs_of(next(rows)), SEVEN[:5] + [SEVEN[6], SEVEN[5]])
        # Another request begins anew and leaves the first one where it is.
        self.assertEqual(next(single_rows(desk)), row_of(*SEVEN))
        self.assertEqual([pairs_of(row)[:4] for row in islice(rows, 4)], [SEVEN[:4]] * 4)

    def test_the_first_of_many_rows_comes_quickly(self):
        before = perf_counter()
        for _ in range(20):
            next(single_rows(desk_of(SEVEN)))
        self.assertLess(perf_counter() - before, 0.5)

    def test_upside_down(self):
        for pairs in small_desks_for_rows("turned rows", 40):
            desk = desk_of(pairs)
            turned = {tuple(pairs_of(row.turned())) for row in single_rows(desk)}
            self.assertEqual(turned, {tuple(pairs_of(row)) for row in single_rows(desk.turned())})

    def test_parameter_names(self):
        desk = desk_of(SEVEN[:2])
        self.assertEqual(len(list(single_rows(desk=desk))), 2)
        self.assertEqual(count_rows(desk=desk), 2)
        self.assertEqual(row_by_rank(desk=desk, rank=0), row_of(*SEVEN[:2]))
        self.assertEqual(rank_of_row(desk=desk, row=row_of(*SEVEN[:2])), 0)
        self.assertEqual(least_climb(desk=Desk()), (0, Row()))


class ListingErrorsTest(unittest.TestCase):
    def assert_limit(self, function, *arguments):
        with self.assertRaises(LimitExceeded) as caught:
            function(*arguments)
        self.assertIs(type(caught.exception), LimitExceeded)
        self.assertEqual(caught.exception.limit, 7)

    def test_more_than_seven_tickets(self):
        for pairs in ([(4, 4)] * 8, SEVEN + [(9, 9)], [(0, 30)] * 8, [(4, 4)] * 40):
            desk = desk_of(pairs)
            rows = single_rows(desk)
            self.assert_limit(next, rows)
            self.assert_limit(list, single_rows(desk))
            self.assert_limit(count_rows, desk)
            self.assert_limit(row_by_rank, desk, 0)
            self.assert_limit(rank_of_row, desk, row_of(*pairs[:1]))
            for _, value in STRANGE:
                self.assert_limit(row_by_rank, desk, value)
            self.assertEqual(desk, desk_of(pairs))

    def test_wrong_ranks(self):
        for pairs, number in [([], 1), (SEVEN[:3], 6), ([(0, 5)] * 2, 0), ([(4, 4)] * 7, 1)]:
            ranks = [("number", number), ("-1", -1), ("-number", -number - 1), ("huge", HUGE), ("-huge", -HUGE)]
            for title, rank in STRANGE + ranks:
                with self.subTest(pairs=pairs, rank=title):
                    with self.assertRaises(InvalidNumber) as caught:
                        row_by_rank(desk_of(pairs), rank)
                    self.assertIs(type(caught.exception), InvalidNumber)
                    self.assertIs(caught.exception.value, rank)

    def test_rows_that_are_no_single_rows(self):
        for pairs, row in [([], row_of((0, 0))), (SEVEN[:3], Row()), (SEVEN[:3], row_of(*SEVEN[:2])),
                           (SEVEN[:3], row_of(*SEVEN[:4])), (SEVEN[:3], row_of(*SEVEN[1:4])),
                           (SEVEN[:3], row_of(*SEVEN[:2], SEVEN[1])), ([(0, 5)] * 2, row_of((0, 5))),
                           ([(4, 4), (4, 4)], row_of((4, 4))), ([(4, 4), (4, 4)], row_of(*[(4, 4)] * 3)),
                           ([(4, 4)], row_of(*[(4, 4)] * 100000))]:
            with self.subTest(pairs=pairs, row=len(row)):
                with self.assertRaises(InvalidPlan) as caught:
                    rank_of_row(desk_of(pairs), row)
                self.assertIs(type(caught.exception), InvalidPlan)
                self.assertEqual((caught.exception.part, caught.exception.spot), ("tickets", None))

    def test_least_climb_has_no_limit(self):
        self.assertEqual(least_climb(desk_of([(4, 4)] * 40)), (0, row_of(*[(4, 4)] * 40)))
        self.assertEqual(least_climb(desk_of([(30, 0)] * 8))[0], 7 * 30)


class LeastClimbTest(unittest.TestCase):
    def assert_too_few(self, pairs):
        with self.assertRaises(TooFew) as caught:
            least_climb(desk_of(pairs))
        self.assertIs(type(caught.exception), TooFew)
        self.assertEqual(number_shown(pairs, caught.exception.reason), fewest(desk_of(pairs)))
        self.assertGreater(fewest(desk_of(pairs)), 1)

    def assert_pair(self, pairs, found):
        self.assertIs(type(found), tuple)
        number, row = found
        self.assertIs(type(number), int)
        self.assertIs(type(row), Row)
        self.assertTrue(is_row(pairs_of(row)))
        self.assertEqual(sorted(pairs_of(row)), sorted(pairs))
        self.assertEqual(climb(pairs_of(row)), number)
        return number

    def test_picked_desks(self):
        for pairs, number in [([], 0), ([(0, 30)], 0), ([(30, 0)], 0), ([(0, 2), (2, 0), (1, 1)], 1),
                              ([(2, 0), (1, 3)], 1), ([(0, 5), (5, 0), (3, 2)], 3), ([(0, 1), (29, 30)], 28),
                              ([(5, 4), (3, 2), (1, 0)], 6)]:
            with self.subTest(pairs):
                self.assertEqual(self.assert_pair(pairs, least_climb(desk_of(pairs))), number)

    def test_no_single_row(self):
        for pairs in ([(0, 5)] * 2, [(0, 5), (3, 3)], [(0, 30)] * 40, [(0, 30)] + [(15, 15)] * 39):
            self.assert_too_few(pairs)

    def test_small_desks_against_the_search(self):
        for pairs in small_desks_for_rows("least climb", 250):
            with self.subTest(pairs):
                least = search.least_climb(pairs)
                if least is None:
                    self.assert_too_few(pairs)
                else:
                    self.assertEqual(self.assert_pair(pairs, least_climb(desk_of(pairs))), least)

    def test_large_desks(self):
        random = Random("least climb")
        found = 0
        lists = large_desks("least climb", 60) + [balanced(random, 40) for _ in range(10)] + FAR_APART + FLAT
        lists += [balanced(random, random.randint(8, 40)) + [(0, 30)] for _ in range(10)]
        for pairs in lists:
            with self.subTest(pairs):
                desk = desk_of(pairs)
                if fewest(desk) > 1:
                    self.assert_too_few(pairs)
                else:
                    found += 1
                    number = self.assert_pair(pairs, least_climb(desk))
                    # A row with a smaller climb would be one of a walker whose ends lie closer.
                    self.assertEqual(number + total_rise(pairs), least_difference(desk))
        self.assertGreater(found, 40)

    def test_many_calls_end_quickly(self):
        desks = [desk_of(pairs) for pairs in FAR_APART + FLAT]
        before = perf_counter()
        for turn in range(1000):
            least_climb(desks[turn % len(desks)])
        self.assertLess(perf_counter() - before, 5)

    def test_upside_down(self):
        for pairs in small_desks_for_rows("turned climb", 40):
            if fewest(desk_of(pairs)) <= 1:
                self.assertEqual(least_climb(desk_of(pairs).turned())[0], least_climb(desk_of(pairs))[0])

    def test_picked_desks_have_the_least_climb_of_all_single_rows(self):
        for pairs in PICKED:
            climbs = [row.climb for row in single_rows(desk_of(pairs))]
            if climbs:
                self.assertEqual(least_climb(desk_of(pairs))[0], min(climbs))


if __name__ == "__main__":
    unittest.main()
