"""Finding how members end, and at which costs: all of them at once, in the order of the costs."""

from heapq import heappop, heappush

from earlyfields.codes import END, GAP


class Row:
    """A member, its role, that is executed from a state, and the ends of it that are known.

    Ends are bits: one for each state in which it ends, then one for each state in which it fails, then one for
    each gap. layers has them by ascending costs, as (cost, bits, number) with the numbers in the order in which
    they were found; out has all of their bits. seen has for each node of the role the states in which it began.
    waiters are those that go on where it ends. It is done if nothing more is to be found of it.
    """

    def __init__(self, role, state):
        self.role = role
        self.state = state
        self.seen = [0] * role.many
        self.out = 0
        self.layers = []
        self.waiters = []
        self.done = False


class Solver:
    """Executes rows all at once, the cheapest first, so that what is found first costs the least.

    A row that waits for another one is a waiter (row, after, failed, cost, own): it goes on at its nodes after and
    failed; cost has come so far; own is None, or what its object owns where the other row is about another object.
    If it is eager, it stops at the first gap. It is not retracing, but works rows out as a whole.
    """

    def __init__(self, space, eager):
        self.space = space
        self.eager = eager
        self.shifts = (2 * space.size, space.size, 0)
        self.levels = []
        self.buckets = {}
        self.layer_count = 0
        self.retracing = False
        self.stopped = False

    def push(self, cost, row, at, bits):
        """A row comes to a node, or to an end, in some states at a cost."""
        if at < 0:
            # Ends and failures and gaps of the same cost are to be found together.
            bits = bits << self.shifts[at] & ~row.out
            at = END
        else:
            bits = bits & ~row.seen[at]
        if bits != 0:
            bucket = self.buckets.get(cost)
            if bucket is None:
                self.buckets[cost] = {(row, at): bits}
                heappush(self.levels, cost)
            else:
                place = (row, at)
                bucket[place] = bucket.get(place, 0) | bits

    def run(self):
        """Goes on until nothing is left."""
        while len(self.levels) > 0 and not self.stopped:
            cost = heappop(self.levels)
            bucket = self.buckets.pop(cost)
            for place in bucket:
                row, at = place
                if at == END:
                    self.emit(cost, row, bucket[place])
                else:
                    row.role.go(self, row, at, bucket[place], cost)

    def emit(self, cost, row, bits):
        """A row ends so, and those that wait for it go on."""
        new = bits & ~row.out
        if new == 0:
            return
        row.out = row.out | new
        row.layers.append((cost, new, self.layer_count))
        self.layer_count = self.layer_count + 1
        for waiter in row.waiters:
            self.deliver(waiter, cost, new)
        if self.eager and new >> 2 * self.space.size != 0:
            self.stopped = True

    def row_of(self, member, state):
        """The row of a member from a state, which begins now unless it is known."""
        row = member.rows.get(state)
        if row is None:
            row = Row(member, state)
            member.rows[state] = row
            member.begin(self, row)
        return row

    def wait(self, member, state, waiter):
        """The waiter goes on wherever a member ends from a state."""
        row = self.row_of(member, state)
        row.waiters.append(waiter)
        for cost, bits, number in row.layers:
            self.deliver(waiter, cost, bits)

    def deliver(self, waiter, cost, bits):
        """The waiter goes on behind these ends."""
        row, after, failed, ahead, own = waiter
        space = self.space
        cost = cost + ahead
        ended = bits & space.full
        fails = bits >> space.size & space.full
        gaps = bits >> 2 * space.size
        if own is not None:
            ended = space.returned(ended, own)
            fails = space.returned(fails, own)
        if after == failed:
            ended = ended | fails
            fails = 0
        if ended != 0:
            self.push(cost, row, after, ended)
        if fails != 0:
            self.push(cost, row, failed, fails)
        if gaps != 0:
            self.push(cost, row, GAP, gaps)
