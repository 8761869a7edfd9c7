"""The definitions of the document over plain pairs of heights, apart from the program.

A ticket is a pair (x, y), a desk a list of pairs, a row a list of pairs.
"""

GAPS = range(30)
HEIGHTS = range(31)


def pairs_of(values):
    """The pairs of the tickets of a desk, a row or a trip's row."""
    return [(ticket.x, ticket.y) for ticket in values.tickets]


def goes_up(pair, gap):
    return pair[0] <= gap < pair[1]


def goes_down(pair, gap):
    return pair[1] <= gap < pair[0]


def up_minus_down(pairs, gap):
    return sum(goes_up(pair, gap) for pair in pairs) - sum(goes_down(pair, gap) for pair in pairs)


def excess(pairs):
    return [up_minus_down(pairs, gap) for gap in GAPS]


def most(pairs):
    """M of [14]."""
    return max(1, *excess(pairs))


def is_row(pairs):
    return all(later[0] >= earlier[1] for earlier, later in zip(pairs, pairs[1:]))


def climb(pairs):
    return sum(later[0] - earlier[1] for earlier, later in zip(pairs, pairs[1:]))


def total_rise(pairs):
    return sum(y - x for x, y in pairs)


def is_whole(value):
    return type(value) is int


def is_gap(value):
    return is_whole(value) and value in GAPS


def is_ascending(value):
    """Whether the value is an ascending tuple of different heights."""
    if type(value) is not tuple or len(value) > 31:
        return False
    if not all(is_whole(each) and each in HEIGHTS for each in value):
        return False
    return all(low < high for low, high in zip(value, value[1:]))


def borders(heights):
    """The gaps between a height in the set and a neighboring one that is not."""
    return [gap for gap in GAPS if (gap in heights) is not (gap + 1 in heights)]


def is_closed_to_tickets(pairs, heights):
    """Whether some ticket begins there, and every ticket has both ends there or none."""
    return (any(x in heights for x, y in pairs)
            and all((x in heights) is (y in heights) for x, y in pairs))


def is_island(pairs, gap, heights):
    """The definition of [14], for any values."""
    if not pairs or not is_gap(gap) or not is_ascending(heights):
        return False
    numbers = excess(pairs)
    inside = [pair for pair in pairs if pair[0] in heights and pair[1] in heights]
    down = sum(goes_down(pair, gap) for pair in inside)
    up = sum(goes_up(pair, gap) for pair in inside)
    return (numbers[gap] == most(pairs)
            and is_closed_to_tickets(pairs, heights)
            and all(numbers[border] == most(pairs) for border in borders(heights))
            and down >= up)


def climbs_between(pairs, begin, end):
    """c of [22]."""
    numbers = []
    for gap, number in enumerate(excess(pairs)):
        if begin <= gap < end:
            numbers.append(1 - number)
        elif end <= gap < begin:
            numbers.append(-1 - number)
        else:
            numbers.append(0 - number)
    return numbers


def climbs_of_group(pairs, starts, ends):
    """c of [32]."""
    return [sum(end > gap for end in ends) - sum(start > gap for start in starts) - number
            for gap, number in enumerate(excess(pairs))]


def is_closed_part(pairs, climbs, starts, heights):
    """The closed part of [22] and [32], for any value of the heights."""
    return (is_ascending(heights)
            and not any(start in heights for start in starts)
            and is_closed_to_tickets(pairs, heights)
            and all(climbs[gap] == 0 for gap in borders(heights)))


def is_correct_obstacle(pairs, climbs, starts, answer):
    """Whether a pair that begins with "gap" or "part" is a correct answer."""
    word, told = answer
    if word == "gap":
        return is_gap(told) and climbs[told] < 0
    return is_closed_part(pairs, climbs, starts, told)


def number_shown(pairs, answer):
    """What check_reason returns for an answer of the right form, None for a wrong one."""
    if answer[0] == "none":
        return 0
    if answer[0] == "one":
        return 1 if pairs else None
    if answer[0] == "gap":
        return excess(pairs)[answer[1]] if is_gap(answer[1]) and excess(pairs)[answer[1]] > 0 else None
    return most(pairs) + 1 if is_island(pairs, answer[1], answer[2]) else None
