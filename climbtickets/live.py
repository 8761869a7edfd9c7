"""Desks that change, and whose changes can be undone."""

from climbtickets.desks import Desk
from climbtickets.errors import LimitExceeded, NothingToUndo
from climbtickets.walkers import Planner, fewest


class LiveDesk:
    """A desk whose tickets come and go."""

    MAX_CHANGES = 60

    def __init__(self, *tickets):
        # The desks after 0, 1, 2 .. of the changes in the log.
        self._states = (Desk(*tickets),)
        self._log = ()

    @property
    def desk(self):
        return self._states[-1]

    @property
    def walkers(self):
        return fewest(self.desk)

    @property
    def log(self):
        return self._log

    def __len__(self):
        return len(self.desk)

    def __bool__(self):
        return bool(self.desk)

    def __eq__(self, other):
        return type(self) is type(other) and self.desk == other.desk and self._log == other._log

    def __contains__(self, x):
        return x in self.desk

    def put(self, *tickets):
        """Adds the tickets at the end."""
        added = Desk(*tickets)
        self.change("put", tickets, self.desk + added)

    def take(self, *tickets):
        """Takes the tickets away, either all or none."""
        taken = Desk(*tickets)
        left = self.desk
        for ticket in taken.tickets:
            left = left - ticket
        self.change("take", tickets, left)

    def change(self, word, tickets, desk):
        """Goes on with this desk and puts down why."""
        if len(self._log) >= LiveDesk.MAX_CHANGES:
            raise LimitExceeded(LiveDesk.MAX_CHANGES)
        self._states = (*self._states, desk)
        self._log = (*self._log, (word, tickets))

    def needed(self, *tickets):
        """The fewest number of rows after put with these tickets."""
        added = Desk(*tickets)
        return fewest(self.desk + added)

    def undo(self):
        """Undoes the latest change."""
        if not self._log:
            raise NothingToUndo()
        self._states = self._states[:-1]
        self._log = self._log[:-1]

    def desks(self):
        """The desks after 0, 1, 2 .. of the changes in the log."""
        yield from self._states

    def copy(self):
        """An equal live desk that changes by itself."""
        made = LiveDesk()
        made._states = self._states
        made._log = self._log
        return made


class PlannedDesk(LiveDesk):
    """A live desk with a plan that has the fewest rows."""

    def __init__(self, *tickets):
        super().__init__(*tickets)
        self._plan = best_plan(self.desk)

    @property
    def plan(self):
        return self._plan

    def put(self, *tickets):
        """Adds the tickets at the end and makes a new plan."""
        super().put(*tickets)
        self._plan = best_plan(self.desk)

    def take(self, *tickets):
        """Takes the tickets away, either all or none, and makes a new plan."""
        super().take(*tickets)
        self._plan = best_plan(self.desk)

    def undo(self):
        """Undoes the latest change and makes a new plan."""
        super().undo()
        self._plan = best_plan(self.desk)

    def copy(self):
        """An equal planned desk that changes by itself."""
        made = PlannedDesk()
        made._states = self._states
        made._log = self._log
        made._plan = self._plan
        return made


def best_plan(desk):
    """A plan with the fewest rows."""
    planner = Planner()
    return planner(desk)
