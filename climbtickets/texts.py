"""Desks as texts."""

from climbtickets.desks import Desk
from climbtickets.errors import ParseError
from climbtickets.tickets import Ticket
from climbtickets.words import number_in, words_in


def desk_text(desk):
    """The text of a desk."""
    lines = [f"desk {len(desk)}"] + [f"{ticket.x} {ticket.y}" for ticket in desk.tickets]
    return "\n".join(lines)


def read_desk(text):
    """The desk of a text, which any value may be."""
    if not isinstance(text, str):
        raise ParseError(0, 0)
    lines = text.split("\n")
    many = read_head(lines)
    pairs = [read_pair(lines, number) for number in range(2, many + 2)]
    after = many + 2
    if len(lines) >= after:
        words_of_line(lines, after)
        raise ParseError(after, 1)
    return Desk.of_pairs(*pairs)


def read_head(lines):
    """The number of tickets, as the first line tells it."""
    words = words_of_line(lines, 1)
    if words[0] != "desk":
        raise ParseError(1, 1)
    many = read_number(words, 1, 2, Desk.MAX_TICKETS)
    check_last(words, 1, 2)
    return many


def read_pair(lines, line):
    """The heights of a ticket."""
    words = words_of_line(lines, line)
    x = read_number(words, line, 1, Ticket.MAX_HEIGHT)
    y = read_number(words, line, 2, Ticket.MAX_HEIGHT)
    check_last(words, line, 2)
    return (x, y)


def words_of_line(lines, line):
    if line > len(lines):
        raise ParseError(line, 1)
    words = words_in(lines[line - 1])
    if words is None:
        raise ParseError(line, 0)
    return words


def read_number(words, line, word, most):
    """The integer that stands at this place, from 0 to the given one."""
    number = number_in(words[word - 1]) if word <= len(words) else None
    if number is None or number > most:
        raise ParseError(line, word)
    return number


def check_last(words, line, word):
    """Raises an error if there are more words than this one."""
    if len(words) > word:
        raise ParseError(line, word + 1)
