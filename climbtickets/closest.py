"""The ends of a walker who uses all tickets and climbs as little as possible.

Only the heights at which a ticket begins or ends matter here. They are called places,
and are counted from 0. A step leads from a place up to the next one: as no ticket begins
or ends on the way, all its gaps have the same excess.
"""

from climbtickets.desks import heights_of_ends
from climbtickets.parts import joined
from climbtickets.tickets import Ticket


def closest_ends(desk):
    """The begin and the end of a walker who climbs least; the desk has tickets, and one walker can use them."""
    # All rows of the desk climb their end minus their beginning, and the same beside that.
    # So the end has to lie as low as possible, seen from the beginning.
    ends = heights_of_ends(desk.tickets)
    places = [height for height in range(Ticket.MAX_HEIGHT + 1) if height in ends]
    excess = desk.excess.numbers
    surplus = [excess[place] for place in places[:-1]]
    marks = marks_of_places(desk, places)
    best = None
    for begin, place in enumerate(places):
        end = lowest_end(surplus, marks, begin)
        if end is not None and (best is None or places[end] - place < best[1] - best[0]):
            best = (place, places[end])
    return best


def marks_of_places(desk, places):
    """For each place a number that it shares with the places that tickets connect with it."""
    marks = list(range(len(places)))
    for ticket in desk.tickets:
        marks = joined(marks, places.index(ticket.x), places.index(ticket.y))
    return marks


def lowest_end(surplus, marks, begin):
    """The lowest place at which a walker from this place can end, or None."""
    # How often a walker climbs each step who ends at the lowest place. One who ends higher
    # climbs once more over each step below the end.
    climbs = [-1 - number if step < begin else -number for step, number in enumerate(surplus)]
    if any([number < -1 for number in climbs]):
        return None
    missing = [step for step, number in enumerate(climbs) if number == -1]
    from_any_end = [step for step, number in enumerate(climbs) if number > 0]
    from_above = [step for step, number in enumerate(climbs) if number == 0]
    used = joining_steps(marks, from_any_end + from_above)
    if used is None:
        return None
    return max([step + 1 for step in missing + used if climbs[step] <= 0], key=int, default=0)


def joining_steps(marks, steps):
    """The first of these steps that bring all places together, one after the other, or None."""
    wanted = len(set(marks)) - 1
    # For each mark another one with which it came together, or itself if it has none.
    others = list(range(len(marks)))
    used = []
    for step in steps:
        low = last_of(others, marks[step])
        high = last_of(others, marks[step + 1])
        if low != high:
            others[low] = high
            used.append(step)
    return used if len(used) == wanted else None


def last_of(others, mark):
    """The mark that all marks share which came together with this one."""
    while others[mark] != mark:
        mark = others[mark]
    return mark
