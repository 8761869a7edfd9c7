"""Trips, and groups of walkers with given starts and ends."""

from climbtickets.errors import InvalidGroup, InvalidNumber, InvalidTrip, NoRow
from climbtickets.obstacles import check_obstacle, obstacle_for
from climbtickets.tickets import is_height
from climbtickets.walks import walks

MAX_WALKERS = 40


class Trip:
    """A walker's way from the start over the tickets of the row to the end."""

    def __init__(self, start, row, end):
        if not is_height(start):
            raise InvalidNumber(start)
        if not is_height(end):
            raise InvalidNumber(end)
        if row and row.begin < start:
            raise InvalidTrip("start")
        last = row.end if row else start
        if last > end:
            raise InvalidTrip("end")
        self._start = start
        self._row = row
        self._end = end

    @property
    def start(self):
        return self._start

    @property
    def row(self):
        return self._row

    @property
    def end(self):
        return self._end

    @property
    def climbed(self):
        if not self._row:
            return self._end - self._start
        return self._row.begin - self._start + self._row.climb + self._end - self._row.end

    def __len__(self):
        return len(self._row)

    def __bool__(self):
        return bool(self._row)

    def __eq__(self, other):
        return (isinstance(other, Trip) and self._start == other._start and self._row == other._row
                and self._end == other._end)

    def __lt__(self, other):
        if not isinstance(other, Trip):
            return NotImplemented
        return (self._start, self._row, self._end) < (other._start, other._row, other._end)

    def __contains__(self, x):
        return x in self._row

    def __add__(self, other):
        if not isinstance(other, Trip):
            return NotImplemented
        if other._start < self._end:
            raise InvalidTrip("join")
        return Trip(self._start, self._row + other._row, other._end)


def group_trips(desk, starts, ends):
    """A tuple of trips, one for every start."""
    reason = group_reason(desk, starts, ends)
    if reason is not None:
        raise NoRow(reason)
    found = walks(desk, starts, ends)
    return tuple([Trip(start, row, end) for start, (row, end) in zip(starts, found)])


def group_reason(desk, starts, ends):
    """Why there are no trips of the group, or None."""
    check_group(starts, ends)
    return obstacle_for(desk, starts, ends)


def check_group_reason(desk, starts, ends, answer):
    """The first item of the answer, which any value may be, if it is correct."""
    check_group(starts, ends)
    return check_obstacle(desk, starts, ends, answer)


def check_group(starts, ends):
    check_heights("starts", starts)
    check_heights("ends", ends)
    if len(starts) != len(ends):
        raise InvalidGroup("numbers")


def check_heights(part, values):
    if not isinstance(values, tuple) or not 1 <= len(values) <= MAX_WALKERS:
        raise InvalidGroup(part)
    for spot, value in enumerate(values):
        if not is_height(value):
            raise InvalidGroup(part, spot)
