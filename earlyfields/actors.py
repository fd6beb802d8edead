"""What heirs and users may do: any of their actions, any number of times and in any order."""

from earlyfields.codes import END, FAILED, GAP

# The places of the user, of a whole life, and of what stands in no row that is shown.
USER = -1
LIFE = -2
NOWHERE = -3

# The nodes of an actor: to act, its first `super`, and to act where what all actors do is done already.
ACT = 0
FIRST = 1
REST = 2

# The nodes of a life: the making, the use of the object, and a making that has failed.
MAKING = 0
USING = 1
GIVEN_UP = 2


class Common:
    """What all actors of a world may do: calling methods and setting names, any number of times.

    It is worked out once for all of them, and stands in no row that is shown.
    """

    def __init__(self, world):
        self.world = world
        self.place = NOWHERE
        self.key = ""
        self.many = 1
        self.rows = {}
        self.entered = []
        self.free = []
        self.ready = False

    def begin(self, solver, row):
        """Begins a row."""
        if not self.ready:
            self._look_around()
        solver.push(0, row, ACT, 1 << row.state)

    def _look_around(self):
        """Finds the members that are executed, and the names that are set without one."""
        family = self.world.model.family
        setters = [self.world.found("setter " + name) for name in family.names]
        members = [self.world.found("method " + method) for method in family.methods] + setters
        self.entered = [member for member in members if member is not None]
        self.free = [name for name, setter in zip(family.names, setters) if setter is None]
        self.ready = True

    def go(self, solver, row, at, bits, cost):
        """Acts in some states, unless it did so before."""
        new = bits & ~row.seen[ACT]
        if new == 0:
            return
        row.seen[ACT] = row.seen[ACT] | new
        solver.emit(cost, row, new)
        kept = new
        for name in self.free:
            kept = kept | solver.space.kept(kept, name)
        if kept != new:
            solver.push(cost, row, ACT, kept)
        onward = (row, ACT, ACT, cost, None)
        for state in solver.space.listed_states(new):
            for member in self.entered:
                solver.wait(member, state, onward)


class Actor:
    """An heir's member at a place of a world, or the user.

    It may read the names that it is promised. If it is tied, it begins with `super`.
    """

    def __init__(self, world, place, key, tied, names):
        self.world = world
        self.place = place
        self.key = key
        self.tied = tied
        self.names = names
        self.many = 3
        self.rows = {}
        self.behind = None
        self.readings = []
        self.ready = False

    def begin(self, solver, row):
        """Begins a row."""
        if not self.ready:
            self._look_around()
        solver.push(0, row, FIRST if self.tied else ACT, 1 << row.state)

    def _look_around(self):
        """Finds what `super` executes, and the getters of the names."""
        world = self.world
        if self.place != USER:
            self.behind = world.next_behind(self.place, self.key)
        for name in self.names:
            gap = (name, self.place, self.key, ())
            self.readings.append((name, world.found("getter " + name), world.model.gap_bit(gap)))
        self.ready = True

    def go(self, solver, row, at, bits, cost):
        """Does what it may do in some states, unless it did so before."""
        if at == FIRST and self.behind is None:
            solver.push(cost, row, ACT, bits)
        elif at == FIRST:
            solver.wait(self.behind, row.state, (row, ACT, FAILED, cost, None))
        else:
            new = bits & ~row.seen[ACT]
            row.seen[ACT] = row.seen[ACT] | new
            row.seen[REST] = row.seen[ACT]
            if new != 0:
                self._act(solver, row, at, new, cost)

    def _act(self, solver, row, at, bits, cost):
        """Does each action in some states, in which it may also end or, if it is an heir's, fail."""
        space = solver.space
        solver.emit(cost, row, bits if self.place == USER else bits | bits << space.size)
        onward = (row, ACT, ACT, cost, None)
        # Whoever traces a way knows only a part of what all actors do, and so has to begin it in each state.
        rest = ACT if solver.retracing else REST
        known = (row, rest, rest, cost, None)
        for state in space.listed_states(bits):
            if at == ACT:
                solver.wait(self.world.common, state, known)
            if self.behind is not None:
                solver.wait(self.behind, state, onward)
        for name, getter, gap in self.readings:
            if getter is not None:
                for state in space.listed_states(bits):
                    solver.wait(getter, state, onward)
            elif bits & ~space.having[name] != 0:
                solver.push(cost, row, GAP, gap)

    def gap_at(self, at, state):
        """The gap (name, owner, key, path) that shows in an action from a state."""
        having = self.world.model.space.having
        lacking = [name for name, getter, gap in self.readings if getter is None and having[name] >> state & 1 == 0]
        return lacking[0], self.place, self.key, ()


class Life:
    """The life of an object in the world of an old order; its states have shared names only."""

    def __init__(self, world):
        self.world = world
        self.place = LIFE
        self.key = "init"
        self.many = 3
        self.rows = {}

    def begin(self, solver, row):
        """Begins a row."""
        solver.push(0, row, MAKING, 1 << row.state)

    def go(self, solver, row, at, bits, cost):
        """The next part of the life, from some states."""
        if at == MAKING:
            init = self.world.found("init")
            state = self.world.born | row.state
            if init is None:
                solver.push(cost, row, USING, 1 << state)
            else:
                solver.wait(init, state, (row, USING, GIVEN_UP, cost, None))
        elif at == USING:
            for state in solver.space.listed_states(bits & ~row.seen[USING]):
                solver.wait(self.world.user, state, (row, END, END, cost, 0))
            row.seen[USING] = row.seen[USING] | bits
        else:
            solver.push(cost, row, END, solver.space.returned(bits, 0))


class Lives:
    """Lives one after another, in any of some worlds; its states have shared names only."""

    def __init__(self, worlds):
        self.worlds = worlds
        self.place = NOWHERE
        self.key = ""
        self.many = 1
        self.rows = {}

    def begin(self, solver, row):
        """Begins a row."""
        solver.push(0, row, 0, 1 << row.state)

    def go(self, solver, row, at, bits, cost):
        """Begins a life in each world from some states, unless it did so before."""
        new = bits & ~row.seen[0]
        row.seen[0] = row.seen[0] | new
        solver.emit(cost, row, new)
        for state in solver.space.listed_states(new):
            for world in self.worlds:
                solver.wait(world.life, state, (row, 0, 0, cost, None))
