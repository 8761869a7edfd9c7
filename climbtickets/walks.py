"""Walks: orders in which walkers with given starts and ends use all tickets."""

from climbtickets.tickets import Row

# A place beside the heights 0 to 30. Walkers come from it to their starts, and go
# from their ends to it: so all walks together are one tour through all places.
HUB = 31


def free_climbs(desk, starts, ends):
    """How often walkers with these starts and ends climb across each gap."""
    excess = desk.excess.numbers
    return [many_above(gap, ends) - many_above(gap, starts) - number for gap, number in enumerate(excess)]


def many_above(gap, heights):
    return len([height for height in heights if height > gap])


def walks(desk, starts, ends):
    """For each start a pair of the row of its walker and the end; nothing may stand against them."""
    found = {each: [] for each in starts}
    start = HUB
    before = HUB
    tickets = []
    for place, ticket in tour(desk, starts, ends):
        if before == HUB:
            start = place
            tickets = []
        if ticket is not None:
            tickets.append(ticket)
        if place == HUB:
            found[start].append((Row(*tickets), before))
        before = place
    return [found[each].pop() for each in starts]


def tour(desk, starts, ends):
    """The roads from the hub, along every road once, back to the hub: each as in roads_by_place."""
    roads = roads_by_place(desk, starts, ends)
    path = [(HUB, None)]
    found = []
    while path:
        place = path[-1][0]
        if roads[place]:
            path.append(roads[place].pop())
        else:
            # Nothing leads on from here, so what is found already comes behind this.
            found.append(path.pop())
    # It was found from its end on, and the hub where it begins is no road.
    return found[-2::-1]


def roads_by_place(desk, starts, ends):
    """For each place the roads from it: the place where it leads, and the ticket or None."""
    roads = [[] for _ in range(HUB + 1)]
    for start in starts:
        roads[HUB].append((start, None))
    for end in ends:
        roads[end].append((HUB, None))
    for gap, number in enumerate(free_climbs(desk, starts, ends)):
        roads[gap].extend([(gap + 1, None)] * number)
    for ticket in desk.tickets:
        roads[ticket.x].append((ticket.y, ticket))
    return roads
