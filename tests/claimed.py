"""Points 21 and 22 word by word: whether a floor holds, and whether a derivation is one."""

import math

from tests.plain import LIFE, USER, Plain, better

LEAST = math.inf


def is_int(value):
    """Whether a value is an integer."""
    return isinstance(value, int) and not isinstance(value, bool)


def is_cost(value):
    """Whether a value is a cost."""
    return is_int(value) and value >= 0


def is_tuple(value, many):
    """Whether a value is a tuple of so many items."""
    return isinstance(value, tuple) and len(value) == many


class Wrong(Exception):
    """A value has not the right form, or something does not hold."""


def need(truth):
    """Raises Wrong unless something is true."""
    if not truth:
        raise Wrong


class Claimed(Plain):
    """Rows that end as it is claimed."""

    def __init__(self, family, sealed=()):
        self.claims = {}
        self.missing = None
        super().__init__(family, sealed)

    def solve(self):
        """Nothing is looked for."""

    def of(self, row):
        """The claimed ends of a row."""
        if row not in self.claims:
            self.missing = row
        return self.claims.get(row, {})

    def names(self, value, known):
        """The names in a value, which must be a tuple in ascending order."""
        need(isinstance(value, tuple) and all([isinstance(name, str) and name in known for name in value]))
        need(list(value) == sorted(set(value)))
        return frozenset(value)

    def own(self, value):
        """The names that an object owns."""
        return self.names(value, self.family.names)

    def shared(self, value):
        """The shared names that have a value."""
        return self.names(value, self.family.shared)

    def member(self, world, place, key, users):
        """Makes sure that there is such a world, place and member."""
        need(isinstance(world, (tuple, str)))
        need(world in self.orders if isinstance(world, tuple) else world in self.family)
        need(isinstance(key, str))
        if is_int(place) and place in users:
            need(isinstance(world, tuple) and key == "init")
        else:
            need(isinstance(place, str) or is_int(place))
            need(any([place == other and place.__class__ is other.__class__ for other in self.sequence(world)]))
            need(self.has(world, place, key))


class PlainFloor(Claimed):
    """A floor."""

    def check(self, thing):
        """Raises Wrong unless a value is a floor that holds."""
        need(is_tuple(thing, 4) and thing[0] == "floor" and isinstance(thing[2], tuple) and isinstance(thing[3], tuple))
        need(thing[1] is None or is_cost(thing[1]))
        states = {}
        for pair in thing[2]:
            need(is_tuple(pair, 2) and is_cost(pair[1]))
            shared = self.shared(pair[0])
            need(shared not in states)
            states[shared] = pair[1]
        worlds = []
        for table in thing[3]:
            need(is_tuple(table, 2) and isinstance(table[1], tuple) and isinstance(table[0], (tuple, str)) and table[0] not in worlds)
            need(table[0] in self.orders if isinstance(table[0], tuple) else table[0] in self.family)
            worlds.append(table[0])
            for row in table[1]:
                self.claim(table[0], row)
        need(states.get(frozenset()) == 0 and all([order in worlds for order in self.orders]))
        for row in self.claims:
            self.compare(self.look_at(row), self.claims[row])
        for order in self.orders:
            for shared, ahead in states.items():
                for end, cost in self.life(order, shared).items():
                    least = thing[1] if end[0] == "gap" else states.get(end[2])
                    need(least is not None and least <= ahead + cost)
        need(self.missing is None)

    def claim(self, world, row):
        """Reads a row."""
        need(is_tuple(row, 6))
        place, key, own, shared, ends, gap = row
        self.member(world, place, key, [USER])
        place_in = (world, place, key, self.own(own), self.shared(shared))
        need(place_in not in self.claims and isinstance(ends, tuple) and (gap is None or is_cost(gap)))
        costs = {} if gap is None else {("gap",): gap}
        for end in ends:
            need(is_tuple(end, 4) and end[0] in ("end", "failed") and is_cost(end[3]))
            read = (end[0], self.own(end[1]), self.shared(end[2]))
            need(read not in costs)
            costs[read] = end[3]
        self.claims[place_in] = costs

    def compare(self, found, claimed):
        """Raises Wrong unless each end is claimed at no higher cost."""
        least = {}
        for end, cost in found.items():
            better(least, ("gap",) if end[0] == "gap" else end, cost)
        for end, cost in least.items():
            need(end in claimed and claimed[end] <= cost)

    def life(self, world, shared):
        """All ends of a user's row count alike."""
        for row, ends in list(self.claims.items()):
            if row[1] == USER:
                self.claims[row] = {}
                for end, cost in ends.items():
                    better(self.claims[row], end if end[0] == "gap" else ("end",) + end[1:], cost)
        return super().life(world, shared)


class PlainSeen(Claimed):
    """A derivation."""

    def check(self, thing):
        """Raises Wrong unless a value is a derivation; its number."""
        need(is_tuple(thing, 3) and thing[0] == "seen" and isinstance(thing[1], tuple) and isinstance(thing[2], tuple))
        lives = {}
        for index, row in enumerate(thing[1]):
            need(is_tuple(row, 7))
            world, place, key, own, shared, end, cost = row
            self.member(world, place, key, [USER, LIFE])
            read = (world, place, key, self.own(own), self.shared(shared))
            need(is_cost(cost) and (place != LIFE or own == ()))
            end = self.end(end)
            found = self.look_at(read)
            need(end in found and found[end] <= cost)
            if place == LIFE:
                lives[index] = (read[4], end, cost)
            else:
                better(self.claims.setdefault(read, {}), end, cost)
        need(len(thing[2]) > 0)
        shared, number = frozenset(), 0
        for at, index in enumerate(thing[2]):
            need(is_int(index) and index in lives and lives[index][0] == shared)
            end = lives[index][1]
            need((end[0] == "gap") == (at == len(thing[2]) - 1))
            shared, number = end[2], number + lives[index][2]
        return number

    def end(self, value):
        """Reads an end."""
        need(isinstance(value, tuple) and len(value) in (3, 5))
        if len(value) == 3:
            need(value[0] in ("end", "failed"))
            return value[0], self.own(value[1]), self.shared(value[2])
        need(value[0] == "gap" and isinstance(value[1], str) and isinstance(value[3], str) and isinstance(value[4], tuple))
        need((isinstance(value[2], str) or is_int(value[2])) and all([is_int(index) for index in value[4]]))
        return value


def holds(family, thing, sealed=()):
    """Whether a value is a floor that holds."""
    try:
        PlainFloor(family, sealed).check(thing)
    except Wrong:
        return False
    return True


def number_seen(family, thing, sealed=()):
    """The number of a derivation, or None if a value is none."""
    try:
        return PlainSeen(family, sealed).check(thing)
    except Wrong:
        return None
