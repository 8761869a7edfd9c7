"""Profiles and desks of tickets."""

from climbtickets.checks import is_position, is_whole
from climbtickets.errors import InvalidDesk, InvalidNumber, InvalidProfile, MissingTicket
from climbtickets.tickets import Ticket, is_height


class Profile:
    """An integer for every gap."""

    GAPS = 30

    def __init__(self, *numbers):
        if len(numbers) != Profile.GAPS:
            raise InvalidProfile(None)
        for spot, number in enumerate(numbers):
            if not is_whole(number):
                raise InvalidProfile(spot)
        self._numbers = numbers

    @classmethod
    def level(cls, number):
        """The profile with this number for every gap."""
        if not is_whole(number):
            raise InvalidNumber(number)
        numbers = [number] * Profile.GAPS
        return cls(*numbers)

    @property
    def numbers(self):
        return self._numbers

    @property
    def peak(self):
        return max(self._numbers, key=int)

    def __eq__(self, other):
        return isinstance(other, Profile) and self._numbers == other._numbers

    def __le__(self, other):
        if not isinstance(other, Profile):
            return NotImplemented
        return all([mine <= theirs for mine, theirs in zip(self._numbers, other._numbers)])

    def __lt__(self, other):
        if not isinstance(other, Profile):
            return NotImplemented
        return self <= other and self._numbers != other._numbers

    def __contains__(self, x):
        return is_whole(x) and x in self._numbers

    def __getitem__(self, at):
        if not is_position(at, Profile.GAPS):
            raise InvalidNumber(at)
        return self._numbers[at]

    # Without this, Python would iterate by calling [ ] with 0, 1, 2 ..
    def __iter__(self):
        raise TypeError("a profile is not iterated over")

    def __add__(self, other):
        if not isinstance(other, Profile):
            return NotImplemented
        numbers = [mine + theirs for mine, theirs in zip(self._numbers, other._numbers)]
        return Profile(*numbers)

    def __sub__(self, other):
        if not isinstance(other, Profile):
            return NotImplemented
        numbers = [mine - theirs for mine, theirs in zip(self._numbers, other._numbers)]
        return Profile(*numbers)

    def __neg__(self):
        numbers = [-number for number in self._numbers]
        return Profile(*numbers)

    def turned(self):
        """The profile seen upside down."""
        numbers = self._numbers[::-1]
        return Profile(*numbers)


class Desk:
    """At most MAX_TICKETS tickets, in their order."""

    MAX_TICKETS = 40

    def __init__(self, *tickets):
        if len(tickets) > Desk.MAX_TICKETS:
            raise InvalidDesk(None)
        spot = first_stranger(tickets)
        if spot is not None:
            raise InvalidDesk(spot)
        self._tickets = tickets

    @staticmethod
    def is_desk(*tickets):
        return len(tickets) <= Desk.MAX_TICKETS and first_stranger(tickets) is None

    @classmethod
    def of_pairs(cls, *pairs):
        """The desk of the tickets with these pairs of heights."""
        for spot, pair in enumerate(pairs):
            if not is_pair_of_heights(pair):
                raise InvalidDesk(spot)
        tickets = [Ticket(x, y) for x, y in pairs]
        return cls(*tickets)

    @property
    def tickets(self):
        return self._tickets

    @property
    def excess(self):
        numbers = surplus_by_gap(self._tickets)
        return Profile(*numbers)

    @property
    def lowest(self):
        return min(heights_of_ends(self._tickets), key=int, default=None)

    @property
    def highest(self):
        return max(heights_of_ends(self._tickets), key=int, default=None)

    def __len__(self):
        return len(self._tickets)

    def __bool__(self):
        return bool(self._tickets)

    def __eq__(self, other):
        return isinstance(other, Desk) and self._tickets == other._tickets

    def __le__(self, other):
        if not isinstance(other, Desk):
            return NotImplemented
        mine = tally(self._tickets)
        theirs = tally(other._tickets)
        return all([mine[pair] <= theirs.get(pair, 0) for pair in mine])

    def __contains__(self, x):
        return isinstance(x, Ticket) and x in self._tickets

    def __getitem__(self, at):
        if not is_position(at, len(self._tickets)):
            raise InvalidNumber(at)
        return self._tickets[at]

    # Without this, Python would iterate by calling [ ] with 0, 1, 2 ..
    def __iter__(self):
        raise TypeError("a desk is not iterated over")

    def __add__(self, other):
        if isinstance(other, Desk):
            tickets = self._tickets + other._tickets
        elif isinstance(other, Ticket):
            tickets = (*self._tickets, other)
        else:
            return NotImplemented
        return Desk(*tickets)

    def __sub__(self, other):
        if not isinstance(other, Ticket):
            return NotImplemented
        if other not in self._tickets:
            raise MissingTicket(other)
        spot = self._tickets.index(other)
        tickets = self._tickets[:spot] + self._tickets[spot + 1:]
        return Desk(*tickets)

    def turned(self):
        """The desk of the turned tickets in the same order."""
        tickets = [ticket.turned() for ticket in self._tickets]
        return Desk(*tickets)


def first_stranger(values):
    """The first position that does not have a ticket, or None."""
    for spot, value in enumerate(values):
        if not isinstance(value, Ticket):
            return spot
    return None


def is_pair_of_heights(value):
    return isinstance(value, tuple) and len(value) == 2 and is_height(value[0]) and is_height(value[1])


def surplus_by_gap(tickets):
    """For each gap how many more tickets go up across it than down across it."""
    # A ticket counts for the gaps above its x and against those above its y:
    # for the gaps that it does not cross, both cancel each other.
    changes = [0 for _ in range(Profile.GAPS + 1)]
    for ticket in tickets:
        changes[ticket.x] = changes[ticket.x] + 1
        changes[ticket.y] = changes[ticket.y] - 1
    surplus = []
    total = 0
    for gap in range(Profile.GAPS):
        total = total + changes[gap]
        surplus.append(total)
    return surplus


def heights_of_ends(tickets):
    return [ticket.x for ticket in tickets] + [ticket.y for ticket in tickets]


def tally(tickets):
    """How often each pair of heights occurs among the tickets."""
    counts = {}
    for ticket in tickets:
        pair = (ticket.x, ticket.y)
        counts[pair] = counts.get(pair, 0) + 1
    return counts
