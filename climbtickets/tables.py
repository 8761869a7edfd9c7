"""Texts that show plans and the excess of desks."""


def plan_table(plan):
    """One line for each row."""
    return "\n".join([row_line(number, row) for number, row in enumerate(plan.rows, start=1)])


def row_line(number, row):
    tickets = "".join([f" {ticket.x:>2}-{ticket.y:<2}" for ticket in row.tickets])
    return f"{number:>3}:{tickets} climb {row.climb:>4}"


def excess_table(desk):
    """One line for each gap from the lowest to the highest height of the desk."""
    if not desk:
        return ""
    excess = desk.excess.numbers
    return "\n".join([f"{gap:>2} {excess[gap]:>+4}" for gap in range(desk.lowest, desk.highest)])
