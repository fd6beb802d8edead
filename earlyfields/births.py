"""The makings of objects of single classes: all of their ends, and the picks that lead there."""

from earlyfields.plays import body_parts, picks_of
from earlyfields.solving import Solver
from earlyfields.tracing import Traces
from earlyfields.worlds import Model

# Ends are listed with picks up to so many steps.
NEAR = 200


class Births:
    """The makings of objects of the classes of a family, each from some shared names that have a value."""

    def __init__(self, family):
        self.model = Model(family, (), True)
        self.space = self.model.space
        self.solver = Solver(self.space, False)
        self.traces = Traces(self.space)

    def state_at(self, owner, shared):
        """The state in which an object of a class is born, where shared has the bits of the shared names."""
        return self.model.world_of(owner).born | shared

    def row_at(self, owner, shared):
        """The solved row of the making, or None if no `init` is found."""
        init = self.model.world_of(owner).found("init")
        if init is None:
            return None
        row = self.solver.row_of(init, self.state_at(owner, shared))
        self.solver.run()
        return row

    def costs_at(self, owner, shared):
        """The costs of all ends of the making, as a dict from the places of their bits, by ascending costs."""
        row = self.row_at(owner, shared)
        if row is None:
            return {self.state_at(owner, shared): 0}
        return {end: cost for cost, bits, number in row.layers for end in self.space.listed_states(bits)}

    def shared_behind(self, end):
        """The bits of the shared names behind an end that is no gap."""
        return end % self.space.size & ~self.space.own_mask

    def is_gap(self, end):
        """Whether an end is a gap."""
        return end >= 2 * self.space.size

    def written(self, end):
        """An end as it is listed, from the place of its bit."""
        size = self.space.size
        if self.is_gap(end):
            gaps = self.model.gaps
            return [("gap",) + gap for gap in gaps if gaps[gap] == 1 << end - 2 * size][0]
        own, shared = self.space.names_of(end % size)
        return ("made", own, shared) if end < size else ("failed", shared)

    def picks_to(self, owner, shared, end):
        """The picks with which the making comes to an end after the fewest steps."""
        row = self.row_at(owner, shared)
        if row is None:
            return []
        return picks_of(self, row, end)

    def parts_of(self, row, end):
        """What a row takes and executes on its way: picks, and pairs of a row and its end."""
        return body_parts(self.traces, row, end)
