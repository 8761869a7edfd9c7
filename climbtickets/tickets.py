"""Tickets and rows of tickets."""

from climbtickets.checks import is_position, is_whole
from climbtickets.errors import BrokenRow, InvalidNumber, InvalidTicket


class Ticket:
    """Leads from the height x to the height y."""

    MAX_HEIGHT = 30

    def __init__(self, x, y):
        if not is_height(x):
            raise InvalidTicket("x")
        if not is_height(y):
            raise InvalidTicket("y")
        self._x = x
        self._y = y

    @property
    def x(self):
        return self._x

    @property
    def y(self):
        return self._y

    @property
    def is_up(self):
        return self._y > self._x

    @property
    def is_down(self):
        return self._y < self._x

    def __eq__(self, other):
        return isinstance(other, Ticket) and self._x == other._x and self._y == other._y

    def __lt__(self, other):
        if not isinstance(other, Ticket):
            return NotImplemented
        return (self._x, self._y) < (other._x, other._y)

    def __contains__(self, x):
        if not is_whole(x):
            return False
        return self._x <= x <= self._y or self._y <= x <= self._x

    def __getitem__(self, at):
        if not is_position(at, 2):
            raise InvalidNumber(at)
        return self._x if at == 0 else self._y

    # Without this, Python would iterate by calling [ ] with 0, 1, 2 ..
    def __iter__(self):
        raise TypeError("a ticket is not iterated over")

    def turned(self):
        """The ticket seen upside down."""
        return Ticket(Ticket.MAX_HEIGHT - self._y, Ticket.MAX_HEIGHT - self._x)


class Row:
    """Tickets of which each begins where the one before ends, or higher."""

    def __init__(self, *tickets):
        spot = first_break(tickets)
        if spot is not None:
            raise BrokenRow(spot)
        self._tickets = tickets

    @property
    def tickets(self):
        return self._tickets

    @property
    def begin(self):
        return self._tickets[0].x if self._tickets else None

    @property
    def end(self):
        return self._tickets[-1].y if self._tickets else None

    @property
    def climb(self):
        return sum([later.x - earlier.y for earlier, later in zip(self._tickets, self._tickets[1:])])

    def __len__(self):
        return len(self._tickets)

    def __bool__(self):
        return bool(self._tickets)

    def __eq__(self, other):
        return isinstance(other, Row) and self._tickets == other._tickets

    def __lt__(self, other):
        if not isinstance(other, Row):
            return NotImplemented
        return self._tickets < other._tickets

    def __contains__(self, x):
        return isinstance(x, Ticket) and x in self._tickets

    def __getitem__(self, at):
        if not is_position(at, len(self._tickets)):
            raise InvalidNumber(at)
        return self._tickets[at]

    # Without this, Python would iterate by calling [ ] with 0, 1, 2 ..
    def __iter__(self):
        raise TypeError("a row is not iterated over")

    def __add__(self, other):
        if isinstance(other, Row):
            tickets = self._tickets + other._tickets
        elif isinstance(other, Ticket):
            tickets = (*self._tickets, other)
        else:
            return NotImplemented
        return Row(*tickets)

    def cut(self, number):
        """The row of the first tickets, so many, and the row of the others."""
        if not is_position(number, len(self._tickets) + 1):
            raise InvalidNumber(number)
        first = self._tickets[:number]
        others = self._tickets[number:]
        return (Row(*first), Row(*others))

    def turned(self):
        """The row seen upside down, read backwards."""
        tickets = [ticket.turned() for ticket in self._tickets[::-1]]
        return Row(*tickets)


def is_height(value):
    return is_position(value, Ticket.MAX_HEIGHT + 1)


def first_break(tickets):
    """The first position that keeps these values from being a row, or None."""
    for spot, ticket in enumerate(tickets):
        if not isinstance(ticket, Ticket):
            return spot
        if spot > 0 and ticket.x < tickets[spot - 1].y:
            return spot
    return None
