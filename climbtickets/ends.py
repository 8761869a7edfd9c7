"""One walker with given ends, and rounds."""

from climbtickets.desks import Desk
from climbtickets.errors import InvalidNumber, NoRounds, NoRow
from climbtickets.obstacles import check_obstacle, obstacle_for
from climbtickets.parts import parts_of, tickets_in
from climbtickets.plans import Plan
from climbtickets.tickets import is_height
from climbtickets.walkers import Planner
from climbtickets.walks import free_climbs, walks


def reason_against(desk, begin, end):
    """Why one walker with these ends cannot use all tickets, or None."""
    check_ends(begin, end)
    return obstacle_for(desk, (begin,), (end,))


def check_reason_against(desk, begin, end, answer):
    """The first item of the answer, which any value may be, if it is correct."""
    check_ends(begin, end)
    return check_obstacle(desk, (begin,), (end,), answer)


def check_ends(begin, end):
    if not is_height(begin):
        raise InvalidNumber(begin)
    if not is_height(end):
        raise InvalidNumber(end)


class EndsPlanner(Planner):
    """Is called with a desk and returns a row of one walker with these ends."""

    def __init__(self, begin, end):
        check_ends(begin, end)
        super().__init__(walkers=1)
        self._begin = begin
        self._end = end

    @property
    def walkers(self):
        return self._walkers

    def __call__(self, desk):
        check_possible(desk, self._begin, self._end)
        return row_between(desk, self._begin, self._end)

    def effort(self, desk):
        """How far the walker climbs before, between and behind the tickets."""
        check_possible(desk, self._begin, self._end)
        return sum(free_climbs(desk, (self._begin,), (self._end,)))


def check_possible(desk, begin, end):
    reason = reason_against(desk, begin, end)
    if reason is not None:
        raise NoRow(reason)


def row_between(desk, begin, end):
    row, _ = walks(desk, (begin,), (end,))[0]
    return row


class RoundPlanner(Planner):
    """Is called with a desk and returns a plan of it whose rows are rounds."""

    def __init__(self):
        super().__init__()

    @property
    def walkers(self):
        return self._walkers

    def __call__(self, desk):
        excess = desk.excess.numbers
        for gap, number in enumerate(excess):
            if number > 0:
                raise NoRounds(gap)
        shut = [number == 0 for number in excess]
        rows = [round_in(desk, part) for part in parts_of(desk, shut)]
        return Plan(desk, *rows)


def round_in(desk, part):
    """A round of all tickets of the part: a walker comes back to where the first of them begins."""
    tickets = tickets_in(desk, part)
    begin = tickets[0].x
    return row_between(Desk(*tickets), begin, begin)
