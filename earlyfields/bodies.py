"""Members of classes in a world: what the steps of a body do to many states at once."""

from earlyfields.codes import GAP
from earlyfields.words import word_of

PASS = 0
KEEP = 1
LOOK = 2
CHOOSE = 3
SPLIT = 4
FAIL = 5
ENTER = 6
MAKE = 7


class Body:
    """The member of a class in a world.

    Its nodes are tuples (deed, after, failed, about): what the step does in this world, where it goes on, and with
    what it does so. They are made when the member begins first, since members execute one another.
    """

    def __init__(self, world, place, key):
        self.world = world
        self.place = place
        self.key = key
        self.code = world.model.code_of(place, key)
        self.many = len(self.code.nodes)
        self.rows = {}
        self.nodes = []

    def begin(self, solver, row):
        """Begins a row."""
        if len(self.nodes) < self.many:
            self.nodes = [self._node_here(node) for node in self.code.nodes]
        solver.push(0, row, self.code.entry, 1 << row.state)

    def _node_here(self, node):
        """What a node of the code does in this world."""
        word, about, path, after, failed, targets = node
        if word == "fail":
            return FAIL, after, failed, None
        if word == "either" or word == "loop" or word == "try":
            return CHOOSE, after, failed, targets
        if word == "if":
            return SPLIT, after, failed, (about,) + targets
        if word == "make":
            made = self.world.model.world_of(about)
            entered = made.found("init")
            deed, about = MAKE, (entered, made.born)
        else:
            entered = self._entered(word, about)
            deed, about = ENTER, entered
        if entered is None:
            deed, about = self._alone(node)
        return deed, after, failed, about

    def _entered(self, word, about):
        """The member that a step executes for the same object, or None."""
        if word == "call":
            return self.world.found("method " + about)
        if word == "set":
            return self.world.found("setter " + about)
        if word == "read":
            return self.world.found("getter " + about)
        if word == "super":
            return self.world.next_behind(self.place, self.key)
        if word == "of":
            return self.world.found_by(about, self.key)
        return None

    def _alone(self, node):
        """What a step does that executes no member, as a pair (deed, about)."""
        word, about, path, after, failed, targets = node
        if word == "super" or word == "of":
            # Such a step does what `keep` or `look` would do where the key is that of a setter or a getter.
            word, about = self.key.partition(" ")[0], word_of(self.key)
        if word == "keep" or word == "set" or word == "setter":
            return KEEP, about
        if word == "look" or word == "read" or word == "getter":
            return LOOK, (about, self.world.model.gap_bit((about, self.place, self.key, path)))
        return PASS, None

    def gap_at(self, at, state):
        """The gap (name, owner, key, path) that shows in the step of a node."""
        name = self.nodes[at][3][0]
        return name, self.place, self.key, self.code.nodes[at][2]

    def go(self, solver, row, at, bits, cost):
        """Begins the step of a node in some states, unless it did so before."""
        new = bits & ~row.seen[at]
        if new == 0:
            return
        row.seen[at] = row.seen[at] | new
        deed, after, failed, about = self.nodes[at]
        cost = cost + 1
        if deed == ENTER:
            waiter = (row, after, failed, cost, None)
            for state in solver.space.listed_states(new):
                solver.wait(about, state, waiter)
        elif deed == KEEP:
            solver.push(cost, row, after, solver.space.kept(new, about))
        elif deed == CHOOSE:
            for target in about:
                solver.push(cost, row, target, new)
        elif deed == LOOK:
            look_up(solver, row, after, about, new, cost)
        elif deed == SPLIT:
            part_ways(solver, row, about, new, cost)
        elif deed == MAKE:
            make_other(solver, row, (after, failed, cost), about, new)
        else:
            solver.push(cost, row, failed if deed == FAIL else after, new)


def look_up(solver, row, after, about, bits, cost):
    """Goes on where a name has a value, and shows a gap where it has none."""
    name, gap = about
    known = bits & solver.space.having[name]
    if known != 0:
        solver.push(cost, row, after, known)
    if known != bits:
        solver.push(cost, row, GAP, gap)


def part_ways(solver, row, about, bits, cost):
    """Goes on in one block where a name has a value, and in the other one where it has none."""
    name, first, second = about
    known = bits & solver.space.having[name]
    if known != 0:
        solver.push(cost, row, first, known)
    if known != bits:
        solver.push(cost, row, second, bits ^ known)


def make_other(solver, row, onward, about, bits):
    """Makes another object; onward is where the row goes on, with the cost."""
    after, failed, cost = onward
    init, born = about
    own_mask = solver.space.own_mask
    for state in solver.space.listed_states(bits):
        solver.wait(init, born | state & ~own_mask, (row, after, failed, cost, state & own_mask))
