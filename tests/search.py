"""Answers for small desks by a search over all orders of the tickets, apart from the program.

A ticket is a pair (x, y), a desk a list of pairs.
"""

from functools import lru_cache
from itertools import combinations, permutations

from definitions import GAPS, HEIGHTS, climb, excess, is_closed_to_tickets, is_island, is_row, most


def fewest_rows(pairs):
    """The fewest rows: as many as the parts into which the best order of the tickets falls."""
    if not pairs:
        return 0
    return min(1 + sum(later[0] < earlier[1] for earlier, later in zip(order, order[1:]))
               for order in set(permutations(pairs)))


def rows_with_all(pairs):
    """All single rows, each once, in ascending order."""
    return sorted(order for order in set(permutations(pairs)) if is_row(order))


def ends_of_rows(pairs):
    """The pairs of the begin and the end of the single rows of a desk with tickets."""
    return {(order[0][0], order[-1][1]) for order in rows_with_all(pairs)}


def possible_ends(pairs):
    """All pairs of ends between which one walker can use all tickets."""
    if not pairs:
        return {(begin, end) for begin in HEIGHTS for end in HEIGHTS if begin <= end}
    found = set()
    for first, last in ends_of_rows(pairs):
        found.update((begin, end) for begin in range(first + 1) for end in range(last, 31))
    return found


def least_effort(pairs, begin, end):
    """The least that one walker climbs in all between these ends."""
    if not pairs:
        return end - begin
    return min(order[0][0] - begin + climb(order) + end - order[-1][1]
               for order in rows_with_all(pairs) if begin <= order[0][0] and order[-1][1] <= end)


def least_climb(pairs):
    return min((climb(order) for order in rows_with_all(pairs)), default=None)


def fewest_rounds(pairs):
    """The fewest rounds into which the tickets can be divided, or None."""
    spots = range(len(pairs))
    closed = {chosen for size in spots for chosen in combinations(spots, size + 1)
              if any(begin >= end for begin, end in ends_of_rows([pairs[spot] for spot in chosen]))}
    return fewest_of(closed, tuple(spots))


def fewest_of(closed, spots):
    """Into how few of these sets of spots the spots can be divided, or None."""
    if not spots:
        return 0
    numbers = [fewest_of(closed, tuple(spot for spot in spots if spot not in chosen))
               for chosen in closed if spots[0] in chosen and all(spot in spots for spot in chosen)]
    return min((1 + number for number in numbers if number is not None), default=None)


def has_trips(pairs, starts, ends):
    """Whether there are trips of the group."""
    return trips_go_on(tuple(starts), None, tuple(sorted(pairs)), tuple(sorted(ends)))


@lru_cache(maxsize=100000)
def trips_go_on(starts, height, pairs, ends):
    """Whether a walker at the height, and the others from the starts, can use the tickets and come to the ends."""
    if height is None:
        return trips_go_on(starts[1:], starts[0], pairs, ends) if starts else not pairs
    for spot, (x, y) in enumerate(pairs):
        if x >= height and trips_go_on(starts, y, pairs[:spot] + pairs[spot + 1:], ends):
            return True
    return any(end >= height and trips_go_on(starts, None, pairs, ends[:spot] + ends[spot + 1:])
               for spot, end in enumerate(ends))


def islands(pairs):
    """Islands, as pairs of a gap and heights: some, if there are any.

    No island has a border at a gap that is not full. It stays one without the blocks
    between full gaps that have no end of a ticket, so these are left out.
    """
    if not pairs:
        return []
    numbers = excess(pairs)
    full = [gap for gap in GAPS if numbers[gap] == most(pairs)]
    blocks = [[]]
    for height in HEIGHTS:
        blocks[-1].append(height)
        if height in full:
            blocks.append([])
    unions = [()]
    for block in blocks:
        if any(x in block or y in block for x, y in pairs):
            unions += [union + tuple(block) for union in unions]
    closed = [union for union in unions if is_closed_to_tickets(pairs, union)]
    return [(gap, union) for union in closed for gap in full if is_island(pairs, gap, union)]
