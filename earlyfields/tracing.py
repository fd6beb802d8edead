"""Seeing how a solved row comes to one of its ends."""

from heapq import heappop, heappush

from earlyfields.codes import GAP
from earlyfields.solving import Row
from earlyfields.spaces import ones_of


class Tracer:
    """Executes a row once more as a solver does, but from one state at a time, until it comes to an end.

    The end is the place of its bit. Of the rows that are executed only those ends count that were found before this
    one, so that no end is its own reason. A coming is a tuple (at, place, callee, bit, ahead): the row came to the
    node at in the state place, or to an end there, behind the end bit of the row callee, or by itself if callee is
    None; ahead is the index of the coming from which it came.
    """

    def __init__(self, space, row, end):
        self.space = space
        self.end = end
        self.newest = layer_of(row, end)[2]
        self.retracing = True
        self.levels = []
        self.buckets = {}
        self.comings = []
        self.now = None
        self.goal = None
        self.row = Row(row.role, row.state)
        row.role.begin(self, self.row)

    def push(self, cost, row, at, bits):
        """The row comes to a node, or to an end, in some states at a cost."""
        for place in ones_of(bits):
            self._come(cost, at, place, None, None)

    def _come(self, cost, at, place, callee, bit):
        """The row comes to a node or to an end, unless it began at that node in this state."""
        if at >= 0 and self.row.seen[at] >> place & 1 == 1:
            return
        if cost not in self.buckets:
            self.buckets[cost] = []
            heappush(self.levels, cost)
        self.buckets[cost].append(len(self.comings))
        self.comings.append((at, place, callee, bit, self.now))

    def wait(self, member, state, waiter):
        """The row goes on behind each end of a member that counts."""
        row, after, failed, ahead, own = waiter
        size = self.space.size
        callee = member.rows.get(state)
        for cost, bit in self._older_ends(callee):
            if bit >= 2 * size:
                self._come(cost + ahead, GAP, bit - 2 * size, callee, bit)
            else:
                place = bit % size
                if own is not None:
                    place = place & ~self.space.own_mask | own
                self._come(cost + ahead, after if bit < size else failed, place, callee, bit)

    def _older_ends(self, callee):
        """The ends of a row that count, as pairs of a cost and the place of a bit; none of a row that never began."""
        if callee is None:
            return []
        return [(cost, bit) for cost, bits, number in callee.layers if number < self.newest for bit in ones_of(bits)]

    def emit(self, cost, row, bits):
        """The row ends so where it is."""
        if bits >> self.end & 1 == 1 and self.goal is None:
            self.goal = self.now

    def run(self):
        """Goes on until the row comes to the end."""
        shifts = (2 * self.space.size, self.space.size, 0)
        while self.goal is None:
            cost = heappop(self.levels)
            for number in self.buckets.pop(cost):
                self.now = number
                at, place = self.comings[number][:2]
                if at < 0:
                    self.emit(cost, self.row, 1 << (place + shifts[at]))
                else:
                    self.row.role.go(self, self.row, at, 1 << place, cost)

    def way(self):
        """The comings up to the end, in their order, as tuples (at, place, callee, bit)."""
        comings = []
        number = self.goal
        while number is not None:
            comings.append(self.comings[number][:4])
            number = self.comings[number][4]
        return comings[::-1]


class Traces:
    """The ways of solved rows to their ends, each of them found once."""

    def __init__(self, space):
        self.space = space
        self._ways = {}

    def way_to(self, row, end):
        """The comings of a row on its way to an end, as tuples (at, place, callee, bit)."""
        if (row, end) not in self._ways:
            tracer = Tracer(self.space, row, end)
            tracer.run()
            self._ways[(row, end)] = tracer.way()
        return self._ways[(row, end)]


def layer_of(row, end):
    """The layer (cost, bits, number) in which an end of a row was found."""
    return [layer for layer in row.layers if layer[1] >> end & 1 == 1][0]


def cost_of(row, end):
    """The cost of an end of a row."""
    return layer_of(row, end)[0]
