"""Executing one row at a time, where all others end as it is claimed."""

from earlyfields.actors import NOWHERE
from earlyfields.solving import Row, Solver


class Checker(Solver):
    """Executes rows alone; the claimed ones are the rows that their members have.

    What all actors of a world do is worked out from the claims, once. missing tells whether a row was executed of
    which nothing is claimed.
    """

    def __init__(self, space):
        super().__init__(space, False)
        self.missing = False
        self.begun = []

    def row_of(self, member, state):
        """The claimed row of a member, or one without ends."""
        row = member.rows.get(state)
        if row is None:
            row = Row(member, state)
            if member.place == NOWHERE:
                member.rows[state] = row
                self.begun.append(row)
                member.begin(self, row)
            else:
                self.missing = True
        return row

    def wait(self, member, state, waiter):
        """The waiter goes on wherever a member ends as claimed."""
        row = self.row_of(member, state)
        if not row.done:
            row.waiters.append(waiter)
        for cost, bits, number in row.layers:
            self.deliver(waiter, cost, bits)

    def layers_of(self, member, state):
        """The ends to which a member then comes, in layers as those of a row."""
        row = Row(member, state)
        member.begin(self, row)
        self.run()
        for other in self.begun:
            other.done = True
            other.waiters = []
        self.begun = []
        return row.layers


def claim_row(member, state, layers):
    """Claims that a member ends so."""
    row = Row(member, state)
    row.done = True
    row.layers = [(cost, bits, 0) for cost, bits in layers]
    member.rows[state] = row


def covers(claimed, layers, ahead):
    """Whether each end in layers is claimed at no higher cost, where so much comes ahead of it.

    claimed has pairs of a cost and bits, by ascending costs.
    """
    known = 0
    at = 0
    for cost, bits, number in layers:
        while at < len(claimed) and claimed[at][0] <= cost + ahead:
            known = known | claimed[at][1]
            at = at + 1
        if bits & ~known != 0:
            return False
    return True


def layered(costs):
    """The pairs of a cost and bits, by ascending costs, for a dict from the places of bits to their costs."""
    layers = {}
    for place in costs:
        layers[costs[place]] = layers.get(costs[place], 0) | 1 << place
    return [(cost, layers[cost]) for cost in sorted(layers)]
