"""What stands against walkers with given starts and ends."""

from climbtickets.checks import has_form, is_position
from climbtickets.errors import InvalidAnswer
from climbtickets.parts import is_part, parts_of
from climbtickets.walks import free_climbs


def obstacle_for(desk, starts, ends):
    """A gap or a closed part that stands against the walkers, or None."""
    climbs = free_climbs(desk, starts, ends)
    for gap, number in enumerate(climbs):
        if number < 0:
            return ("gap", gap)
    for part in parts_of(desk, unclimbed(climbs)):
        if not share_a_height(part, starts):
            return ("part", part)
    return None


def unclimbed(climbs):
    return [number == 0 for number in climbs]


def share_a_height(heights, others):
    return any([height in others for height in heights])


def check_obstacle(desk, starts, ends, answer):
    """The first item of the answer, which any value may be, if it is correct."""
    if not has_form(answer, ("gap", "part"), 2):
        raise InvalidAnswer("form")
    if not is_obstacle(free_climbs(desk, starts, ends), desk, starts, answer):
        raise InvalidAnswer(answer[0])
    return answer[0]


def is_obstacle(climbs, desk, starts, answer):
    word, told = answer
    if word == "gap":
        return is_position(told, len(climbs)) and climbs[told] < 0
    return is_part(desk, unclimbed(climbs), told) and not share_a_height(told, starts)
