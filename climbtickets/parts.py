"""Parts: sets of heights that no ticket leads out of, and that nobody may climb out of.

The argument `shut` tells for each gap whether nobody may climb across it.
"""

from climbtickets.desks import Profile
from climbtickets.tickets import Ticket, is_height


def is_part(desk, shut, value):
    """Whether the value is an ascending tuple of heights that are a part with tickets."""
    return are_ascending_heights(value) and is_closed(desk, shut, value) and len(tickets_in(desk, value)) > 0


def are_ascending_heights(value):
    # The length comes first, so that values with very many parts are answered quickly.
    if not isinstance(value, tuple) or len(value) > Ticket.MAX_HEIGHT + 1:
        return False
    if not all([is_height(each) for each in value]):
        return False
    return all([low < high for low, high in zip(value, value[1:])])


def is_closed(desk, shut, heights):
    borders = [gap for gap in range(Profile.GAPS) if (gap in heights) != (gap + 1 in heights)]
    leaving = [ticket for ticket in desk.tickets if (ticket.x in heights) != (ticket.y in heights)]
    return not leaving and all([shut[gap] for gap in borders])


def tickets_in(desk, heights):
    """The tickets that begin at one of the heights."""
    return [ticket for ticket in desk.tickets if ticket.x in heights]


def parts_of(desk, shut):
    """The smallest parts with tickets, as ascending tuples of heights."""
    marks = marks_of_parts(desk, shut)
    marks_with_tickets = [marks[ticket.x] for ticket in desk.tickets]
    heights = range(Ticket.MAX_HEIGHT + 1)
    return [tuple([each for each in heights if marks[each] == mark]) for mark in heights if mark in marks_with_tickets]


def marks_of_parts(desk, shut):
    """For each height a number that it shares with the heights of its part only."""
    marks = list(range(Ticket.MAX_HEIGHT + 1))
    ends = [(ticket.x, ticket.y) for ticket in desk.tickets]
    neighbors = [(gap, gap + 1) for gap in range(Profile.GAPS) if not shut[gap]]
    for one, other in ends + neighbors:
        if marks[one] != marks[other]:
            marks = joined(marks, one, other)
    return marks


def joined(marks, one, other):
    """The marks when these two share theirs."""
    kept = marks[one]
    dropped = marks[other]
    return [kept if mark == dropped else mark for mark in marks]
