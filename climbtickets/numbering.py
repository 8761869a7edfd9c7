"""The numbers of the single rows of a desk, found without going through the rows.

The tickets are in ascending order here. A choice of them is an integer whose bit k is
set if it has the ticket at the spot k.
"""

from climbtickets.tickets import Row


class Numbering:
    """Numbers the single rows of these tickets, which are in ascending order."""

    def __init__(self, tickets):
        self._tickets = tickets
        self._twins = twins_of(tickets)
        self._counts = counts_of_rows(tickets, self._twins)

    def many(self):
        """How many single rows there are."""
        return self._counts[-1][-1]

    def row_at(self, rank):
        """The single row with this number."""
        found = []
        left = len(self._counts) - 1
        low = 0
        rest = rank
        while left:
            for spot, number in self.ways_on(left, low):
                if rest < number:
                    break
                rest = rest - number
            found.append(self._tickets[spot])
            left = without(left, spot)
            low = self._tickets[spot].y
        return Row(*found)

    def rank_of(self, row):
        """The number of this single row."""
        rank = 0
        left = len(self._counts) - 1
        low = 0
        for ticket in row.tickets:
            for spot, number in self.ways_on(left, low):
                if self._tickets[spot] == ticket:
                    break
                rank = rank + number
            left = without(left, spot)
            low = ticket.y
        return rank

    def ways_on(self, left, low):
        """The spots of the tickets that may come next, if these are left, each with the number of rows that do so."""
        spots = [spot for spot in first_spots(left, self._twins) if self._tickets[spot].x >= low]
        return [(spot, self._counts[without(left, spot)][spot]) for spot in spots]


def counts_of_rows(tickets, twins):
    """For each choice and each spot how many rows of just the chosen tickets go on behind the ticket there.

    The last number for each choice is how many rows of just these tickets there are.
    """
    begins = [ticket.x for ticket in tickets]
    lows = [ticket.y for ticket in tickets] + [0]
    counts = [[1 for _ in lows]]
    for choice in range(1, 1 << len(tickets)):
        onward = [(begins[spot], counts[without(choice, spot)][spot]) for spot in first_spots(choice, twins)]
        counts.append([sum([number for begin, number in onward if begin >= low]) for low in lows])
    return counts


def twins_of(tickets):
    """For each spot the choice of the ticket before it if both are equal, and else of none."""
    return [1 << (spot - 1) if spot > 0 and tickets[spot - 1] == ticket else 0 for spot, ticket in enumerate(tickets)]


def first_spots(choice, twins):
    """The spots of the chosen tickets, of equal ones only the first."""
    return [spot for spot, twin in enumerate(twins) if choice & (1 << spot) and not choice & twin]


def without(choice, spot):
    return choice ^ (1 << spot)
