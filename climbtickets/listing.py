"""The single rows of a desk: all of them, their numbers, and the least climb."""

from climbtickets.checks import is_position
from climbtickets.closest import closest_ends
from climbtickets.ends import EndsPlanner
from climbtickets.errors import InvalidNumber, InvalidPlan, LimitExceeded, TooFew
from climbtickets.numbering import Numbering
from climbtickets.plans import have_tickets_of
from climbtickets.tickets import Row
from climbtickets.walkers import fewest, reason_for

MAX_LISTED = 7


def single_rows(desk):
    """All single rows in ascending order."""
    check_limit(desk)
    row = Row()
    tickets = in_order(desk.tickets)
    yield from rows_going_on(row, tickets)


def check_limit(desk):
    if len(desk) > MAX_LISTED:
        raise LimitExceeded(MAX_LISTED)


def in_order(tickets):
    found = []
    for ticket in tickets:
        spot = len([each for each in found if each < ticket])
        found.insert(spot, ticket)
    return found


def rows_going_on(row, tickets):
    """The rows that go on from this one with all these tickets, which are in order."""
    if not tickets:
        yield row
    for spot, ticket in enumerate(tickets):
        is_new = spot == 0 or tickets[spot - 1] != ticket
        if is_new and (not row or row.end <= ticket.x):
            longer = row + ticket
            others = tickets[:spot] + tickets[spot + 1:]
            yield from rows_going_on(longer, others)


def numbering_of(desk):
    check_limit(desk)
    tickets = in_order(desk.tickets)
    return Numbering(tickets)


def count_rows(desk):
    """The number of single rows."""
    return numbering_of(desk).many()


def row_by_rank(desk, rank):
    """The single row with this number."""
    numbering = numbering_of(desk)
    if not is_position(rank, numbering.many()):
        raise InvalidNumber(rank)
    return numbering.row_at(rank)


def rank_of_row(desk, row):
    """The number of this single row."""
    numbering = numbering_of(desk)
    if not have_tickets_of(desk, (row,)):
        raise InvalidPlan("tickets")
    return numbering.rank_of(row)


def least_climb(desk):
    """A pair of the least climb of a single row and such a row."""
    if fewest(desk) > 1:
        raise TooFew(reason_for(desk))
    if not desk:
        return (0, Row())
    begin, end = closest_ends(desk)
    planner = EndsPlanner(begin, end)
    row = planner(desk)
    return (row.climb, row)
