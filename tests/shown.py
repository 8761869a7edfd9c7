"""The fewest rows of a desk, shown by a plan and by a reason that the definitions check."""

from climbtickets.desks import Desk
from climbtickets.walkers import Planner, reason_for
from definitions import is_row, number_shown, pairs_of


def desk_of(pairs):
    return Desk.of_pairs(*pairs)


def is_plan_of(pairs, plan):
    """Whether the rows of the plan fit, are not empty, and have exactly these tickets."""
    rows = [pairs_of(row) for row in plan.rows]
    return all(row and is_row(row) for row in rows) and sorted(sum(rows, [])) == sorted(pairs)


def fewest_shown(pairs):
    """The number of rows of a plan that is right, and for which a right reason says that fewer are not enough."""
    plan = Planner()(desk_of(pairs))
    if not is_plan_of(pairs, plan) or number_shown(pairs, reason_for(desk_of(pairs))) != len(plan.rows):
        raise AssertionError(f"nothing shows the fewest rows of {pairs}")
    return len(plan.rows)
