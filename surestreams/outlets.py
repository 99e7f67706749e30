"""Outlets: which rows of a query over streams are out."""

from surestreams.state import State
from surestreams.steps import steps_of


class Outlet:
    """Gives out each row of a query once; sources is a dict from names to streams, as in State."""

    def __init__(self, query, sources):
        self.state = State(steps_of(query), sources)
        self.given = {}

    def waiting(self):
        """Returns the rows of the present result that are not out, in ascending order."""
        return sorted([row for row in self.state.result(self.state.top) if row not in self.given])

    def give(self):
        """Gives out the rows that are sure and not yet out; returns them in ascending order."""
        rows = [row for row in self.waiting() if self.state.is_sure(self.state.top, row)]
        for row in rows:
            self.given[row] = True
        return rows

    def take_over(self, other):
        """Takes over the rows that another outlet has given out."""
        self.given = {row: True for row in other.given}
