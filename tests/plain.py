"""Points 17, 19 and 20 word by word: the ends of all members at all places, looked for until nothing changes."""

import itertools

USER, LIFE = -1, -2


def is_old_order(family, thing):
    """Point 17, for a tuple of different classes."""
    for name in thing:
        order = family.order(name)
        if not set(order) <= set(thing) or [other for other in thing if other in order] != list(order):
            return False
    for at, name in enumerate(thing):
        for other in thing[:at]:
            for key in set(family.own_keys(name)) & set(family.own_keys(other)):
                body = family.body(other, key)
                if family.grade(name, key) == "final" or (family.grade(name, key) == "chained" and body[:1] != (("super",),)):
                    return False
    return True


def old_orders(family):
    """All old orders."""
    rows = [row for size in range(len(family) + 1) for row in itertools.permutations(family.classes, size)]
    return sorted([row for row in rows if is_old_order(family, row)])


def better(costs, end, cost):
    """Notes the cost of an end if it is a smaller one; whether it is."""
    if end in costs and costs[end] <= cost:
        return False
    costs[end] = cost
    return True


class Plain:
    """The rows of a family, and how each one ends.

    A row is (world, place, key, own, shared) with frozensets; its ends are ("end", own, shared), ("failed", own,
    shared) and ("gap", name, owner, key, path), each with its least cost.
    """

    def __init__(self, family, sealed=()):
        self.family = family
        self.sealed = set(sealed)
        self.orders = old_orders(family)
        self.ends = {}
        self.lives = {frozenset(): 0}
        self.gap = None
        self.solve()

    def sequence(self, world):
        """The places of a world."""
        if isinstance(world, str):
            return list(self.family.order(world))
        return [place for at, name in enumerate(world) for place in (at, name)] + [len(world)]

    def behind(self, world, place):
        """The classes with an index from a place of heirs on."""
        return world[max(place, 0):]

    def has(self, world, place, key):
        """Whether a place has a member."""
        if isinstance(place, str):
            return key in self.family.own_keys(place)
        if key in self.sealed or key not in self.family.all_keys():
            return False
        grades = [self.family.grade(name, key) for name in self.behind(world, place) if key in self.family.own_keys(name)]
        return "final" not in grades and (key.split()[0] in ("init", "method") or len(grades) > 0)

    def tied(self, world, place, key):
        """Whether the member of a place of heirs is tied."""
        return key == "init" or "chained" in [
            self.family.grade(name, key) for name in self.behind(world, place) if key in self.family.own_keys(name)]

    def promised(self, world, place, key):
        """The names that may be read there."""
        return {name for owner in self.behind(world, place) for name in self.family.promise(owner, key)}

    def first(self, world, key, places=None):
        """The first of some places that has a member, or None."""
        for place in self.sequence(world) if places is None else places:
            if self.has(world, place, key):
                return place
        return None

    def after(self, world, place, key):
        """The place with the member that `super` executes, or None."""
        places = self.sequence(world)
        return self.first(world, key, places[places.index(place) + 1:])

    def birth(self, world):
        """What an object owns at birth."""
        line = self.family.order(world) if isinstance(world, str) else world
        return frozenset([name for owner in line for name in self.family.class_values(owner)])

    def of(self, row):
        """The known ends of a row, which is looked at from now on."""
        if row not in self.ends:
            self.ends[row] = {}
            self.changed = True
        return self.ends[row]

    def solve(self):
        """Looks at all rows and lives until nothing changes."""
        self.changed = True
        while self.changed:
            self.changed = False
            for shared in list(self.lives):
                for world in self.orders:
                    for end, cost in list(self.of((world, LIFE, "init", frozenset(), shared)).items()):
                        total = self.lives[shared] + cost
                        if end[0] == "gap":
                            if self.gap is None or total < self.gap:
                                self.gap, self.changed = total, True
                        elif better(self.lives, end[2], total):
                            self.changed = True
            for row in list(self.ends):
                for end, cost in self.look_at(row).items():
                    if better(self.ends[row], end, cost):
                        self.changed = True

    def look_at(self, row):
        """The ends of a row, as those of the others are known."""
        world, place, key, own, shared = row
        if place == LIFE:
            return self.life(world, shared)
        if isinstance(place, str):
            out = {}
            ends, fails = self.execute((world, place, key), (), self.family.body(place, key), {(own, shared): 0}, out)
            for kind, states in (("end", ends), ("failed", fails)):
                for state, cost in states.items():
                    better(out, (kind,) + state, cost)
            return out
        return self.act(world, place, key, (own, shared))

    def life(self, world, shared):
        """The ends of a life."""
        out, used = {}, {}
        place, birth = self.first(world, "init"), self.birth(world)
        made = {("end", birth, shared): 0} if place is None else self.of((world, place, "init", birth, shared))
        for end, cost in made.items():
            if end[0] == "gap":
                better(out, end, cost)
            elif end[0] == "failed":
                better(out, ("end", frozenset(), end[2]), cost)
            else:
                for final, more in self.of((world, USER, "init") + end[1:]).items():
                    better(out, final if final[0] == "gap" else ("end", frozenset(), final[2]), cost + more)
        return out

    def act(self, world, place, key, state):
        """The ends of an heir's member or of the user."""
        out, reached, work = {}, {}, []

        def come(new, cost):
            if better(reached, new, cost):
                work.append(new)

        if place == USER or not self.tied(world, place, key):
            come(state, 0)
        else:
            following = self.after(world, place, key)
            ends = {("end",) + state: 0} if following is None else self.of((world, following, key) + state)
            for end, cost in ends.items():
                if end[0] == "end":
                    come(end[1:], cost)
                else:
                    better(out, end, cost)
        while work:
            now = work.pop()
            cost = reached[now]
            for step in self.actions(world, place, key):
                for end, more in self.step((world, place, key), (), step, now, 0).items():
                    if end[0] == "gap":
                        better(out, end, cost + more)
                    else:
                        come(end[1:], cost + more)
        for new, cost in reached.items():
            better(out, ("end",) + new, cost)
            if place != USER:
                better(out, ("failed",) + new, cost)
        return out

    def actions(self, world, place, key):
        """What an heir's member or the user may do."""
        steps = [("call", method) for method in self.family.methods] + [("set", name) for name in self.family.names]
        steps += [("read", name) for name in self.promised(world, place, key)]
        return steps if place == USER else steps + [("super",)]

    def known(self, name, state):
        """Whether a name has a value."""
        return name in state[0] or name in state[1]

    def keep(self, name, state):
        """The state in which a name has its value."""
        own, shared = state
        return (own, shared | {name}) if name in self.family.shared else (own | {name}, shared)

    def step(self, where, path, step, state, price):
        """The ends of a step without blocks, from a state."""
        world, place, key = where
        word, about = (step + (None,))[:2]
        if word == "fail":
            return {("failed",) + state: price}
        if word == "make":
            place = self.first(about, "init")
            birth = self.birth(about)
            ends = {("end", birth, state[1]): 0} if place is None else self.of((about, place, "init", birth, state[1]))
            out = {}
            for end, cost in ends.items():
                better(out, end if end[0] == "gap" else (end[0], state[0], end[2]), price + cost)
            return out
        found = None
        if word in ("call", "set", "read"):
            wanted = {"call": "method ", "set": "setter ", "read": "getter "}[word] + about
            found = self.first(world, wanted)
        elif word == "super":
            wanted, found = key, self.after(world, place, key)
        elif word == "of":
            wanted, found = key, self.first(world, key, self.family.order(about))
        if found is not None:
            return {end: price + cost for end, cost in self.of((world, found, wanted) + state).items()}
        if word in ("super", "of"):
            word, about = (key.split() + [None])[:2]
        if word in ("set", "keep", "setter"):
            return {("end",) + self.keep(about, state): price}
        if word in ("read", "look", "getter") and not self.known(about, state):
            return {("gap", about, place, key, path): price}
        return {("end",) + state: price}

    def execute(self, where, ahead, steps, states, out):
        """The states in which a body ends and fails, from some states with their costs; gaps go to out."""
        fails = {}
        for index, step in enumerate(steps):
            path, after = ahead + (index,), {}
            if step[0] in ("try", "if", "either", "loop"):
                after = self.blocks(where, path, step, states, fails, out)
            else:
                for state, cost in states.items():
                    for end, total in self.step(where, path, step, state, cost + 1).items():
                        if end[0] == "gap":
                            better(out, end, total)
                        else:
                            better(after if end[0] == "end" else fails, end[1:], total)
            states = after
        return states, fails

    def blocks(self, where, path, step, states, fails, out):
        """The states behind a step with blocks."""
        begun = {state: cost + 1 for state, cost in states.items()}
        after = {}

        def block(number, body, some, failing):
            ends, failed = self.execute(where, path + (number,), body, some, out)
            for state, cost in failed.items():
                better(failing, state, cost)
            return ends

        def join(ends):
            for state, cost in ends.items():
                better(after, state, cost)

        if step[0] == "either":
            for number, body in enumerate(step[1]):
                join(block(number, body, begun, fails))
        elif step[0] == "if":
            for number, body in enumerate(step[2:]):
                join(block(number, body, {state: begun[state] for state in begun if self.known(step[1], state) == (number == 0)}, fails))
        elif step[0] == "try":
            failed = {}
            join(block(0, step[1], begun, failed))
            join(block(1, step[2], failed, fails))
        else:
            join(begun)
            while True:
                again = {state: cost + 1 for state, cost in block(0, step[1], after, fails).items()}
                if not any([better(after, state, cost) for state, cost in again.items()]):
                    break
        return after
