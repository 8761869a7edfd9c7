"""A console that runs commands for a live desk."""

from climbtickets.ends import EndsPlanner, RoundPlanner
from climbtickets.errors import InvalidDesk, LimitExceeded, MissingTicket, NoRounds, NoRow, NothingToUndo
from climbtickets.listing import count_rows
from climbtickets.live import LiveDesk
from climbtickets.tickets import Ticket, is_height
from climbtickets.walkers import reason_for
from climbtickets.words import number_in, words_in


class Console:
    """Holds a live desk, or none at the beginning."""

    def __init__(self):
        self._live = None

    def run(self, command):
        """The result of the command, which any value may be."""
        words = words_in(command) if isinstance(command, str) else None
        if words is None:
            return "bad command"
        word = words[0]
        numbers = [number_in(each) for each in words[1:]]
        if None in numbers or not takes(word, len(numbers)):
            return "bad command"
        if word == "new":
            self._live = LiveDesk()
            return "ok"
        if self._live is None:
            return "no desk"
        if not all([is_height(number) for number in numbers]):
            return "bad number"
        action = ACTIONS[word]
        return action(self._live, *numbers)


def takes(word, many):
    """Whether so many integers follow this word of a command."""
    if word in ("put", "take"):
        return many > 0 and many % 2 == 0
    return NUMBERS.get(word) == many


def put_tickets(live, *heights):
    tickets = tickets_of(heights)
    try:
        live.put(*tickets)
    except InvalidDesk:
        return "too many tickets"
    except LimitExceeded:
        return "too many changes"
    return "ok"


def take_tickets(live, *heights):
    tickets = tickets_of(heights)
    try:
        live.take(*tickets)
    except InvalidDesk:
        return "too many tickets"
    except MissingTicket:
        return "missing"
    except LimitExceeded:
        return "too many changes"
    return "ok"


def tickets_of(heights):
    """The tickets of the first and second height, the third and fourth, and so on."""
    return [Ticket(x, y) for x, y in zip(heights[::2], heights[1::2])]


def undo_change(live):
    try:
        live.undo()
    except NothingToUndo:
        return "nothing to undo"
    return "ok"


def fewest_walkers(live):
    return str(live.walkers)


def word_of_reason(live):
    return reason_for(live.desk)[0]


def effort_between(live, start, end):
    planner = EndsPlanner(start, end)
    try:
        return str(planner.effort(live.desk))
    except NoRow as error:
        return f"no {error.reason[0]}"


def fewest_rounds(live):
    planner = RoundPlanner()
    try:
        return str(len(planner(live.desk)))
    except NoRounds:
        return "no"


def number_of_rows(live):
    try:
        return str(count_rows(live.desk))
    except LimitExceeded:
        return "too long"


# How many integers follow the words that are always followed by as many.
NUMBERS = {"new": 0, "undo": 0, "walkers": 0, "reason": 0, "ends": 2, "rounds": 0, "count": 0}

ACTIONS = {
    "put": put_tickets,
    "take": take_tickets,
    "undo": undo_change,
    "walkers": fewest_walkers,
    "reason": word_of_reason,
    "ends": effort_between,
    "rounds": fewest_rounds,
    "count": number_of_rows,
}
