import unittest
from operator import add, eq, ge, getitem, gt, le, lt, neg, sub
from random import Random
from time import perf_counter

import search
from climbtickets.desks import Desk
from climbtickets.errors import InvalidDesk, LimitExceeded, MissingTicket, NothingToUndo
from climbtickets.live import LiveDesk, PlannedDesk
from climbtickets.plans import Plan
from climbtickets.tickets import Row, Ticket
from definitions import HEIGHTS, pairs_of
from drawn import PICKED, balanced, drawn_pairs, small_desks
from samples import HUGE, STRANGE, EqualToAll
from shown import desk_of, fewest_shown, is_plan_of

CLASSES = (LiveDesk, PlannedDesk)

# Values that are no tickets, each with a name.
NO_TICKETS = STRANGE + [("number", 5), ("huge", HUGE), ("row", Row(Ticket(0, 5))), ("desk", Desk(Ticket(0, 5))),
                        ("live desk", LiveDesk(Ticket(0, 5))), ("class of tickets", Ticket)]


def tickets_of(pairs):
    return [Ticket(x, y) for x, y in pairs]


def live_of(kind, pairs):
    return kind(*tickets_of(pairs))


def pairs_of_log(live):
    return [(word, [(ticket.x, ticket.y) for ticket in tickets]) for word, tickets in live.log]


class Record:
    """What a live desk has to be, kept by the tests."""

    def __init__(self, pairs):
        self.states = [list(pairs)]
        self.log = []

    def now(self):
        return self.states[-1]

    def put(self, pairs):
        self.states.append(self.now() + list(pairs))
        self.log.append(("put", list(pairs)))

    def take(self, pairs):
        left = list(self.now())
        for pair in pairs:
            left.remove(pair)
        self.states.append(left)
        self.log.append(("take", list(pairs)))

    def undo(self):
        self.states.pop()
        self.log.pop()

    def copy(self):
        made = Record([])
        made.states = [list(state) for state in self.states]
        made.log = list(self.log)
        return made


class LiveTestCase(unittest.TestCase):
    def assert_as_recorded(self, live, record):
        pairs = record.now()
        self.assertIs(type(live.desk), Desk)
        self.assertEqual(pairs_of(live.desk), pairs)
        self.assertEqual(live.walkers, fewest_shown(pairs))
        self.assertIs(type(live.walkers), int)
        self.assertIs(type(live.log), tuple)
        for change in live.log:
            self.assertIs(type(change), tuple)
            self.assertIs(type(change[1]), tuple)
        self.assertEqual(pairs_of_log(live), record.log)
        self.assertEqual(len(live), len(pairs))
        self.assertIs(bool(live), len(pairs) > 0)
        for x, y in [(0, 0), (5, 0), (0, 30), *pairs[:3]]:
            self.assertIs(Ticket(x, y) in live, (x, y) in pairs)
        self.assertEqual([pairs_of(desk) for desk in live.desks()], record.states)
        if type(live) is PlannedDesk:
            self.assert_planned(live, pairs)

    def assert_planned(self, live, pairs):
        self.assertIs(type(live.plan), Plan)
        self.assertEqual(live.plan.desk, desk_of(pairs))
        self.assertTrue(is_plan_of(pairs, live.plan))
        self.assertEqual(len(live.plan), live.walkers)

    def assert_raises(self, expected, field, value, function, *arguments):
        """The function raises just this error, with just this value in its field."""
        with self.assertRaises(expected) as caught:
            function(*arguments)
        self.assertIs(type(caught.exception), expected)
        self.assertIs(getattr(caught.exception, field), value)

    def assert_raises_at(self, spot, function, *arguments):
        with self.assertRaises(InvalidDesk) as caught:
            function(*arguments)
        self.assertIs(type(caught.exception), InvalidDesk)
        self.assertEqual(caught.exception.spot, spot)
        self.assertIs(type(caught.exception.spot), type(spot))


def look_of(live):
    """Everything that can be seen of a live desk."""
    plan = live.plan if isinstance(live, PlannedDesk) else None
    return (pairs_of(live.desk), pairs_of_log(live), live.walkers, len(live), bool(live),
            [pairs_of(desk) for desk in live.desks()], id(plan), plan and [pairs_of(row) for row in plan.rows])


class BeginningTest(LiveTestCase):
    def test_picked_desks(self):
        for kind in CLASSES:
            for pairs in PICKED:
                with self.subTest(kind=kind.__name__, pairs=pairs):
                    self.assert_as_recorded(live_of(kind, pairs), Record(pairs))

    def test_no_tickets(self):
        for kind in CLASSES:
            live = kind()
            self.assertEqual((live.desk, live.walkers, live.log, len(live), bool(live)), (Desk(), 0, (), 0, False))
            self.assertEqual(list(live.desks()), [Desk()])
        self.assertEqual(PlannedDesk().plan, Plan(Desk()))

    def test_small_desks_against_the_search(self):
        for pairs in small_desks("live", 60, most=5):
            for kind in CLASSES:
                self.assertEqual(live_of(kind, pairs).walkers, search.fewest_rows(pairs))

    def test_the_very_tickets(self):
        tickets = tickets_of([(0, 5), (3, 2)])
        for kind in CLASSES:
            self.assertTrue(all(one is other for one, other in zip(kind(*tickets).desk.tickets, tickets)))

    def test_properties_cannot_be_assigned(self):
        for kind, names in [(LiveDesk, ("desk", "walkers", "log")), (PlannedDesk, ("desk", "walkers", "log", "plan"))]:
            for name in names:
                with self.assertRaises(AttributeError):
                    setattr(kind(), name, 1)
        self.assertFalse(hasattr(LiveDesk(), "plan"))

    def test_the_limit(self):
        for kind in CLASSES:
            self.assertEqual(kind.MAX_CHANGES, 60)
            self.assertIs(type(kind().MAX_CHANGES), int)

    def test_errors(self):
        for kind in CLASSES:
            self.assertEqual(len(kind(*tickets_of([(4, 4)] * 40))), 40)
            self.assert_raises_at(None, kind, *tickets_of([(4, 4)] * 41))
            self.assert_raises_at(None, kind, *[None] * 41)
            for title, value in NO_TICKETS:
                with self.subTest(title):
                    self.assert_raises_at(0, kind, value)
                    self.assert_raises_at(1, kind, Ticket(0, 5), value, value)
                    self.assert_raises_at(39, kind, *tickets_of([(4, 4)] * 39), value)
                    self.assert_raises_at(None, kind, *tickets_of([(4, 4)] * 40), value)

    def test_a_desk_in_a_live_desk(self):
        tickets = tickets_of([(0, 5), (0, 5), (3, 2)])
        for kind in CLASSES:
            live = kind(*tickets)
            self.assertIs(Ticket(0, 5) in live, True)
            self.assertIs(Ticket(5, 0) in live, False)
            for title, value in NO_TICKETS:
                with self.subTest(title):
                    self.assertIs(value in live, False)
            live.take(Ticket(0, 5))
            self.assertIs(Ticket(0, 5) in live, True)
            live.take(Ticket(0, 5))
            self.assertIs(Ticket(0, 5) in live, False)

    def test_operators_that_are_not_described(self):
        for kind in CLASSES:
            live = kind(Ticket(0, 5))
            for value in (live, kind(), Desk(), Ticket(0, 5), Row(), 0, None, EqualToAll()):
                for operator in (add, sub, lt, le, gt, ge):
                    with self.assertRaises(TypeError):
                        operator(live, value)
                    with self.assertRaises(TypeError):
                        operator(value, live)
            for operator, arguments in ((neg, [live]), (getitem, [live, 0])):
                with self.assertRaises(TypeError):
                    operator(*arguments)


class ChangesTest(LiveTestCase):
    def test_put_and_take(self):
        for kind in CLASSES:
            live, record = live_of(kind, [(0, 5), (3, 2)]), Record([(0, 5), (3, 2)])
            for word, pairs in [("put", [(5, 0)]), ("put", []), ("take", [(0, 5), (5, 0)]), ("take", []),
                                ("put", [(1, 1), (3, 2), (1, 1)]), ("take", [(3, 2)]), ("take", [(1, 1), (3, 2)])]:
                answer = getattr(live, word)(*tickets_of(pairs))
                getattr(record, word)(pairs)
                self.assertIs(answer, None)
                self.assert_as_recorded(live, record)
            self.assertEqual(record.now(), [(1, 1)])
            while record.log:
                self.assertIs(live.undo(), None)
                record.undo()
                self.assert_as_recorded(live, record)

    def test_take_takes_the_first_equal_ticket(self):
        first, second, third = tickets_of([(4, 4), (2, 2), (4, 4)])
        for kind in CLASSES:
            live = kind(first, second, third)
            live.take(Ticket(4, 4))
            self.assertEqual(len(live), 2)
            self.assertIs(live.desk.tickets[0], second)
            self.assertIs(live.desk.tickets[1], third)
            live.undo()
            self.assertIs(live.desk.tickets[0], first)

    def test_the_very_tickets_stand_in_the_log(self):
        tickets = tickets_of([(0, 5), (3, 2)])
        taken = Ticket(0, 5)
        for kind in CLASSES:
            live = kind()
            live.put(*tickets)
            live.take(taken)
            self.assertEqual(live.log, (("put", tuple(tickets)), ("take", (taken,))))
            self.assertIs(live.log[0][1][1], tickets[1])
            self.assertIs(live.log[1][1][0], taken)

    def test_long_sequences(self):
        for kind in CLASSES:
            for seed in range(6):
                with self.subTest(kind=kind.__name__, seed=seed):
                    self.change_for_long(kind, Random(f"changes {seed}"))

    def change_for_long(self, kind, random):
        heights = random.choice([4, 30])
        pairs = drawn_pairs(random, random.randint(0, 40), 0, heights)
        live, record = live_of(kind, pairs), Record(pairs)
        for _ in range(90):
            word = random.choice(["put", "put", "take", "take", "undo", "copy"])
            if word == "copy":
                live, record = live.copy(), record.copy()
            elif word == "undo":
                self.undo_both(live, record)
            else:
                self.change_both(live, record, word, self.draw_change(random, record.now(), word, heights))
            self.assert_as_recorded(live, record)

    def draw_change(self, random, pairs, word, heights):
        if word == "put":
            return drawn_pairs(random, random.randint(0, 4), 0, heights)
        chosen = random.sample(pairs, min(len(pairs), random.randint(0, 4)))
        return chosen + drawn_pairs(random, 1, 0, heights) if random.random() < 0.2 else chosen

    def undo_both(self, live, record):
        if record.log:
            live.undo()
            record.undo()
        else:
            with self.assertRaises(NothingToUndo):
                live.undo()

    def change_both(self, live, record, word, pairs):
        """Changes both, or finds the first error that applies."""
        tickets = tickets_of(pairs)
        left = list(record.now())
        for ticket, pair in zip(tickets, pairs):
            if word == "take":
                if pair not in left:
                    return self.assert_raises(MissingTicket, "value", ticket, live.take, *tickets)
                left.remove(pair)
        if word == "put" and len(left) + len(pairs) > 40:
            return self.assert_raises_at(None, live.put, *tickets)
        if len(record.log) == 60:
            return self.assert_raises(LimitExceeded, "limit", 60, getattr(live, word), *tickets)
        getattr(live, word)(*tickets)
        return getattr(record, word)(pairs)

    def test_every_state_of_small_desks_against_the_search(self):
        random = Random("small changes")
        for kind in CLASSES:
            live = kind()
            for _ in range(60):
                if len(live) < 5 and random.random() < 0.6:
                    live.put(*tickets_of(drawn_pairs(random, 1, 0, 4)))
                elif live:
                    live.take(random.choice(live.desk.tickets))
                else:
                    live.put()
                self.assertEqual(live.walkers, search.fewest_rows(pairs_of(live.desk)))
            self.assertEqual(len(live.log), 60)


class ChangeErrorsTest(LiveTestCase):
    def assert_nothing_changes(self, live, check, *arguments):
        before, desk, log = look_of(live), live.desk, live.log
        check(*arguments)
        self.assertEqual(look_of(live), before)
        self.assertEqual((live.desk, live.log), (desk, log))

    def full_logs(self, kind):
        """A live desk with two tickets and an empty log, and one whose log is full."""
        full = live_of(kind, [(0, 5), (3, 2)])
        for _ in range(30):
            full.put(Ticket(5, 0))
            full.take(Ticket(5, 0))
        return [live_of(kind, [(0, 5), (3, 2)]), full]

    def test_values_that_are_no_tickets(self):
        for kind in CLASSES:
            for live in self.full_logs(kind):
                for title, value in NO_TICKETS:
                    for word in ("put", "take", "needed"):
                        with self.subTest(title=title, word=word):
                            method = getattr(live, word)
                            self.assert_nothing_changes(live, self.assert_raises_at, 0, method, value)
                            self.assert_raises_at(1, method, Ticket(0, 5), value, None)
                            # A ticket that is missing comes behind every value that is no ticket.
                            self.assert_raises_at(2, method, Ticket(9, 9), Ticket(9, 9), value)
                            self.assert_raises_at(39, method, *tickets_of([(9, 9)] * 39), value)
                            self.assert_raises_at(None, method, *tickets_of([(9, 9)] * 40), value)

    def test_more_than_forty_tickets(self):
        for kind in CLASSES:
            for many in (0, 1, 39, 40):
                live = live_of(kind, [(4, 4)] * many)
                for word in ("put", "needed"):
                    method = getattr(live, word)
                    self.assert_nothing_changes(live, self.assert_raises_at, None, method,
                                                *tickets_of([(4, 4)] * (41 - many)))
                    self.assert_raises_at(None, method, *tickets_of([(4, 4)] * 41))
                self.assert_nothing_changes(live, self.assert_raises_at, None, live.take, *tickets_of([(4, 4)] * 41))
                self.assert_raises_at(None, live.take, *[None] * 41)
                self.assertEqual(live.needed(*tickets_of([(4, 4)] * (40 - many))), 1)
                live.put(*tickets_of([(4, 4)] * (40 - many)))
                self.assertEqual(len(live), 40)
                # What is no ticket comes ahead of too many of them.
                self.assert_raises_at(0, live.put, "5")
                self.assert_raises_at(1, live.needed, Ticket(4, 4), "5")
                self.assert_raises_at(None, live.put, Ticket(4, 4))
                live.put()
                self.assertEqual(live.needed(), 1)
                live.take(*tickets_of([(4, 4)] * 40))
                self.assertEqual(live.desk, Desk())

    def test_missing_tickets(self):
        for kind in CLASSES:
            for live in self.full_logs(kind):
                one, other, more = Ticket(0, 5), Ticket(0, 5), Ticket(9, 9)
                for tickets, missing in [((more,), more), ((one, other), other), ((other, one), one),
                                         ((one, more, other), more), ((Ticket(3, 2), one, other, more), other),
                                         ((more,) + (one,) * 39, more), ((one,) + (more,) * 39, more)]:
                    self.assert_nothing_changes(live, self.assert_raises, MissingTicket, "value", missing, live.take,
                                                *tickets)
            empty = kind()
            self.assert_nothing_changes(empty, self.assert_raises, MissingTicket, "value", one, empty.take, one)

    def test_sixty_changes(self):
        for kind in CLASSES:
            for word, pairs in [("put", []), ("take", []), ("put", [(1, 1)]), ("take", [(0, 5)])]:
                live = live_of(kind, [(0, 5), (3, 2)])
                for _ in range(59):
                    live.put()
                getattr(live, word)(*tickets_of(pairs))
                self.assertEqual(len(live.log), 60)
                self.assertEqual(len(list(live.desks())), 61)
                for change in (live.put, live.take):
                    self.assert_nothing_changes(live, self.assert_raises, LimitExceeded, "limit", 60, change)
                    self.assert_raises(LimitExceeded, "limit", 60, change, Ticket(3, 2))
                self.assertEqual(live.needed(Ticket(3, 3)), fewest_shown(pairs_of(live.desk) + [(3, 3)]))
                live.undo()
                getattr(live, word)(*tickets_of(pairs))
                self.assert_raises(LimitExceeded, "limit", 60, live.put)

    def test_other_errors_come_ahead_of_sixty_changes(self):
        for kind in CLASSES:
            live = live_of(kind, [(4, 4)] * 40)
            for _ in range(60):
                live.take()
            self.assert_raises_at(None, live.put, Ticket(4, 4))
            self.assert_raises_at(0, live.put, None)
            missing = Ticket(0, 5)
            self.assert_raises(MissingTicket, "value", missing, live.take, Ticket(4, 4), missing)
            self.assert_raises(LimitExceeded, "limit", 60, live.put)
            self.assert_raises(LimitExceeded, "limit", 60, live.take, Ticket(4, 4))

    def test_failed_changes_are_not_counted(self):
        for kind in CLASSES:
            live = kind()
            for _ in range(100):
                self.assert_raises_at(0, live.put, None)
                with self.assertRaises(MissingTicket):
                    live.take(Ticket(0, 0))
                with self.assertRaises(NothingToUndo):
                    live.undo()
                live.needed(Ticket(0, 0))
            for _ in range(60):
                live.put()
            self.assert_raises(LimitExceeded, "limit", 60, live.take)

    def test_nothing_to_undo(self):
        for kind in CLASSES:
            live = live_of(kind, [(0, 5)])
            live.put()
            live.undo()
            before = look_of(live)
            for _ in range(3):
                with self.assertRaises(NothingToUndo) as caught:
                    live.undo()
                self.assertIs(type(caught.exception), NothingToUndo)
                self.assertEqual(vars(caught.exception), {})
            self.assertEqual(look_of(live), before)

    def test_values_with_many_parts_are_answered_quickly(self):
        value = dict(STRANGE)["many parts"]
        before = perf_counter()
        for kind in CLASSES:
            live = kind(Ticket(0, 5))
            self.assertIs(value in live, False)
            self.assertIs(live == value, False)
            for method in (live.put, live.take, live.needed):
                self.assert_raises_at(0, method, value)
        self.assertLess(perf_counter() - before, 0.5)


class NeededTest(LiveTestCase):
    def test_needed(self):
        random = Random("needed")
        for kind in CLASSES:
            for pairs in small_desks("needed", 30):
                live = live_of(kind, pairs)
                more = drawn_pairs(random, random.randint(0, 5), 0, random.choice([4, 30]))
                before = look_of(live)
                needed = live.needed(*tickets_of(more))
                self.assertIs(type(needed), int)
                self.assertEqual(needed, fewest_shown(pairs + more))
                self.assertEqual(look_of(live), before)
                live.put(*tickets_of(more))
                self.assertEqual(live.walkers, needed)

    def test_needed_for_no_tickets(self):
        for kind in CLASSES:
            self.assertEqual(kind().needed(), 0)
            self.assertEqual(live_of(kind, [(0, 5), (3, 2)]).needed(), 2)
            self.assertEqual(kind().needed(*tickets_of([(0, 30)] * 40)), 40)


class DesksTest(LiveTestCase):
    def test_one_after_the_other(self):
        for kind in CLASSES:
            live = live_of(kind, [(0, 5)])
            live.put(Ticket(3, 2))
            live.take(Ticket(0, 5))
            live.put()
            desks = live.desks()
            self.assertIs(iter(desks), desks)
            self.assertEqual(next(desks), desk_of([(0, 5)]))
            self.assertEqual(next(live.desks()), desk_of([(0, 5)]))
            self.assertEqual(list(desks), [desk_of([(0, 5), (3, 2)]), desk_of([(3, 2)]), desk_of([(3, 2)])])
            live.undo()
            live.undo()
            self.assertEqual(list(live.desks()), [desk_of([(0, 5)]), desk_of([(0, 5), (3, 2)])])
            self.assertTrue(all(type(desk) is Desk for desk in live.desks()))


class PlanTest(LiveTestCase):
    def test_the_plan_stays_as_long_as_nothing_changes(self):
        for pairs in PICKED + [balanced(Random("plan"), 30)]:
            live = live_of(PlannedDesk, pairs)
            live.put(Ticket(2, 3))
            plan, rows = live.plan, live.plan.rows
            live.needed(Ticket(0, 30))
            live.copy().put(Ticket(0, 30))
            list(live.desks())
            for wrong in (live.put, live.take):
                with self.assertRaises(InvalidDesk):
                    wrong(None)
            with self.assertRaises(MissingTicket):
                live.take(*tickets_of([(2, 3), (30, 29), (30, 29), (30, 29)]))
            self.assertIs(live.plan, plan)
            self.assertEqual(live.plan, plan)
            self.assertIs(live.plan.rows, rows)

    def test_a_plan_of_the_current_desk(self):
        live = PlannedDesk(*tickets_of([(0, 5), (3, 2)]))
        self.assertEqual(len(live.plan), 2)
        first = live.plan
        live.put(Ticket(5, 0))
        self.assert_planned(live, [(0, 5), (3, 2), (5, 0)])
        self.assertEqual(len(live.plan), 1)
        live.undo()
        self.assert_planned(live, [(0, 5), (3, 2)])
        # The plan that was read before has not changed.
        self.assertEqual((first.desk, len(first)), (desk_of([(0, 5), (3, 2)]), 2))
        live.take(*live.desk.tickets)
        self.assertEqual(live.plan, Plan(Desk()))


class CopyTest(LiveTestCase):
    def changed(self, kind):
        live = live_of(kind, [(0, 5), (3, 2)])
        live.put(Ticket(5, 0))
        live.take(Ticket(3, 2))
        return live

    def test_equal_with_the_same_log(self):
        for kind in CLASSES:
            live = self.changed(kind)
            made = live.copy()
            self.assertIs(type(made), kind)
            self.assertIs(made == live, True)
            self.assertIs(made != live, False)
            self.assertEqual(made.log, live.log)
            self.assertEqual(list(made.desks()), list(live.desks()))
            self.assertEqual((made.desk, made.walkers, len(made)), (live.desk, live.walkers, len(live)))
            if kind is PlannedDesk:
                self.assert_planned(made, [(0, 5), (5, 0)])

    def test_changes_of_one_have_no_effect_on_the_other(self):
        for kind in CLASSES:
            for change in (lambda live: live.put(Ticket(1, 1)), lambda live: live.take(Ticket(0, 5)),
                           lambda live: live.undo(), lambda live: live.put()):
                for pick in (0, 1):
                    live = self.changed(kind)
                    both = (live, live.copy())
                    before = look_of(both[1 - pick])
                    change(both[pick])
                    self.assertEqual(look_of(both[1 - pick]), before)
                    self.assertIs(both[0] == both[1], False)
                    change(both[1 - pick])
                    self.assertIs(both[0] == both[1], True)

    def test_a_copy_is_undone_by_itself(self):
        for kind in CLASSES:
            live = self.changed(kind)
            made = live.copy().copy()
            made.undo()
            made.undo()
            with self.assertRaises(NothingToUndo):
                made.undo()
            self.assertEqual(made.desk, desk_of([(0, 5), (3, 2)]))
            self.assertEqual(len(live.log), 2)
            live.undo()
            live.undo()
            self.assertIs(live == made, True)

    def test_a_copy_of_sixty_changes(self):
        for kind in CLASSES:
            live = kind()
            for _ in range(60):
                live.put()
            made = live.copy()
            self.assert_raises(LimitExceeded, "limit", 60, made.put)
            made.undo()
            made.put(Ticket(0, 5))
            self.assertEqual((len(made), len(live), len(made.log), len(live.log)), (1, 0, 60, 60))


class EqualTest(LiveTestCase):
    def test_equal(self):
        for kind in CLASSES:
            one, other = live_of(kind, [(0, 5), (3, 2)]), live_of(kind, [(0, 5), (3, 2)])
            self.assertIs(one == other, True)
            self.assertIs(one == one, True)
            one.put(Ticket(1, 1))
            self.assertIs(one == other, False)
            self.assertIs(one != other, True)
            other.put(Ticket(1, 1))
            self.assertIs(one == other, True)
            self.assertIs(one != other, False)

    def test_the_same_desk_by_other_changes(self):
        for kind in CLASSES:
            changes = [lambda live: None, lambda live: live.put(), lambda live: live.take(),
                       lambda live: (live.put(), live.put()), lambda live: (live.put(Ticket(1, 1)), live.take(Ticket(1, 1))),
                       lambda live: live.put(Ticket(1, 1)), lambda live: live.put(Ticket(1, 2))]
            lives = []
            for change in changes:
                live = live_of(kind, [(0, 5)])
                change(live)
                lives.append(live)
            for spot, one in enumerate(lives):
                self.assertEqual([one == other for other in lives], [place == spot for place in range(len(lives))])

    def test_equal_desks_and_logs_by_other_desks_between(self):
        for kind in CLASSES:
            one, other = live_of(kind, [(4, 4), (2, 2), (4, 4)]), live_of(kind, [(2, 2), (4, 4), (4, 4)])
            self.assertIs(one == other, False)
            one.take(Ticket(4, 4))
            other.take(Ticket(4, 4))
            self.assertIs(one == other, True)
            self.assertNotEqual(list(one.desks()), list(other.desks()))
            one.undo()
            other.undo()
            self.assertIs(one == other, False)

    def test_another_order_of_the_tickets(self):
        for kind in CLASSES:
            self.assertIs(live_of(kind, [(0, 5), (3, 2)]) == live_of(kind, [(3, 2), (0, 5)]), False)

    def test_a_planned_desk_is_not_a_live_desk(self):
        for pairs in PICKED:
            live, planned = live_of(LiveDesk, pairs), live_of(PlannedDesk, pairs)
            for one, other in ((live, planned), (planned, live)):
                self.assertIs(one == other, False)
                self.assertIs(one != other, True)

    def test_other_values(self):
        for kind in CLASSES:
            live = live_of(kind, [(0, 5)])
            others = [("desk", live.desk), ("row", Row(Ticket(0, 5))), ("ticket", Ticket(0, 5)), ("number", 1)]
            others += [("class", kind), ("log", live.log), ("plan", Plan(live.desk, Row(Ticket(0, 5))))]
            for title, value in STRANGE + others:
                with self.subTest(title):
                    self.assertIs(eq(live, value), False)
                    self.assertIs(live != value, True)
                    if title not in ("equal to all", "refusing"):
                        self.assertIs(value == live, False)


class SubclassTest(unittest.TestCase):
    def test_a_planned_desk_is_a_kind_of_live_desk(self):
        self.assertEqual(PlannedDesk.__bases__, (LiveDesk,))
        self.assertEqual(LiveDesk.__bases__, (object,))

    def test_calls_end_quickly(self):
        pairs = [(x, (x * 7) % 31) for x in HEIGHTS]
        before = perf_counter()
        for _ in range(20):
            live = live_of(PlannedDesk, pairs)
            for _ in range(30):
                live.put(Ticket(0, 5))
                live.take(Ticket(0, 5))
        self.assertLess(perf_counter() - before, 5)


if __name__ == "__main__":
    unittest.main()
