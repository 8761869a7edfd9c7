"""The fewest walkers, why fewer are not enough, and plans."""

from climbtickets.checks import has_form, is_position
from climbtickets.desks import Desk, surplus_by_gap
from climbtickets.errors import InvalidAnswer, InvalidNumber, TooFew, TooMany
from climbtickets.parts import is_part, parts_of, tickets_in
from climbtickets.plans import Plan
from climbtickets.tickets import Ticket
from climbtickets.walks import walks


def fewest(desk):
    """The fewest number of rows of a plan."""
    return rows_shown_by(desk, reason_for(desk))


def reason_for(desk):
    """Why fewer rows are not enough."""
    if not desk:
        return ("none",)
    full = full_gaps(desk)
    island = island_of(desk, full)
    if island is not None:
        return island
    for gap, is_full in enumerate(full):
        if is_full:
            return ("gap", gap)
    return ("one",)


def full_gaps(desk):
    """For each gap whether its excess is the greatest of 1 and all numbers of the excess."""
    excess = desk.excess
    most = max(1, excess.peak)
    return [number == most for number in excess.numbers]


def island_of(desk, full):
    """An island as reason_for tells it, or None."""
    for part in parts_of(desk, full):
        surplus = surplus_by_gap(tickets_in(desk, part))
        for gap, is_full in enumerate(full):
            if is_full and surplus[gap] <= 0:
                return ("island", gap, part)
    return None


def is_island(desk, gap, heights):
    """Whether these values, which may be any ones, are an island."""
    full = full_gaps(desk)
    if not is_position(gap, len(full)) or not full[gap] or not is_part(desk, full, heights):
        return False
    return surplus_by_gap(tickets_in(desk, heights))[gap] <= 0


def check_reason(desk, answer):
    """The number of rows that the answer, which any value may be, shows to be needed."""
    if not (has_form(answer, ("none", "one"), 1) or has_form(answer, ("gap",), 2) or has_form(answer, ("island",), 3)):
        raise InvalidAnswer("form")
    if not is_reason(desk, answer):
        raise InvalidAnswer(answer[0])
    return rows_shown_by(desk, answer)


def is_reason(desk, answer):
    if answer[0] == "one":
        return len(desk) > 0
    if answer[0] == "gap":
        excess = desk.excess.numbers
        return is_position(answer[1], len(excess)) and excess[answer[1]] > 0
    if answer[0] == "island":
        return is_island(desk, answer[1], answer[2])
    return True


def rows_shown_by(desk, reason):
    """How many rows are needed for a reason that is as described."""
    if reason[0] == "none":
        return 0
    if reason[0] == "one":
        return 1
    number = desk.excess.numbers[reason[1]]
    return number if reason[0] == "gap" else number + 1


class Planner:
    """Is called with a desk and returns a plan of it."""

    def __init__(self, *, walkers=None):
        if walkers is not None and not is_position(walkers, Desk.MAX_TICKETS + 1):
            raise InvalidNumber(walkers)
        self._walkers = walkers

    @property
    def walkers(self):
        return self._walkers

    def __call__(self, desk):
        least = fewest(desk)
        number = least if self._walkers is None else self._walkers
        if number < least:
            raise TooFew(reason_for(desk))
        if number > len(desk):
            raise TooMany(len(desk))
        rows = divided(rows_from_bottom_to_top(desk, least), number)
        return Plan(desk, *rows)


def rows_from_bottom_to_top(desk, number):
    """So many rows; for the fewest number of them, none is empty."""
    starts = [0] * number
    ends = [Ticket.MAX_HEIGHT] * number
    return [row for row, _ in walks(desk, starts, ends)]


def divided(rows, number):
    """So many rows, at least as many as these, made by cutting their first tickets off."""
    missing = number - len(rows)
    found = []
    for row in rows:
        rest = row
        while missing > 0 and len(rest) > 1:
            first, rest = rest.cut(1)
            found.append(first)
            missing = missing - 1
        found.append(rest)
    return found
