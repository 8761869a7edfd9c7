"""Plans: rows that together use every ticket of a desk."""

from climbtickets.checks import is_position
from climbtickets.desks import tally
from climbtickets.errors import InvalidNumber, InvalidPlan
from climbtickets.tickets import Row


class Plan:
    """Rows with tickets that together have exactly the tickets of the desk."""

    def __init__(self, desk, *rows):
        spot = first_unusable(rows)
        if spot is not None:
            raise InvalidPlan("row", spot)
        if not have_tickets_of(desk, rows):
            raise InvalidPlan("tickets")
        self._desk = desk
        self._rows = rows

    @staticmethod
    def is_plan(desk, *rows):
        return first_unusable(rows) is None and have_tickets_of(desk, rows)

    @property
    def desk(self):
        return self._desk

    @property
    def rows(self):
        return self._rows

    @property
    def climb(self):
        return sum([row.climb for row in self._rows])

    def __len__(self):
        return len(self._rows)

    def __eq__(self, other):
        return isinstance(other, Plan) and self._desk == other._desk and self._rows == other._rows

    def __getitem__(self, at):
        if not is_position(at, len(self._rows)):
            raise InvalidNumber(at)
        return self._rows[at]

    # Without this, Python would iterate by calling [ ] with 0, 1, 2 .., and `in` would, too.
    def __iter__(self):
        raise TypeError("a plan is not iterated over")


def is_round(row):
    """Whether the row has tickets and begins at or above its end."""
    return bool(row) and row.begin >= row.end


def first_unusable(values):
    """The first position that does not have a row with tickets, or None."""
    for spot, value in enumerate(values):
        if not isinstance(value, Row) or not value:
            return spot
    return None


def have_tickets_of(desk, rows):
    # The lengths come first, so that rows with very many tickets are answered quickly.
    if sum([len(row) for row in rows]) != len(desk):
        return False
    tickets = [ticket for row in rows for ticket in row.tickets]
    return tally(tickets) == tally(desk.tickets)
