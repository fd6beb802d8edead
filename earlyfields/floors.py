"""The floor of a solved family."""

from earlyfields.spaces import ones_of


class Builder:
    """Builds the rows of a floor; rows that end alike have the same tuple of ends."""

    def __init__(self, space):
        self.space = space
        self.ends_of = {}

    def table_of(self, world):
        """The pair of a world and its rows."""
        rows = []
        for place in world.places:
            for key in world.model.family.all_keys():
                if (place, key) in world.members:
                    rows.extend(self._rows_of(world.members[(place, key)]))
        return world.name, tuple(rows + self._rows_of(world.user))

    def _rows_of(self, member):
        """The rows of a member, by ascending states."""
        return [self._row_of(member, member.rows[state]) for state in sorted(member.rows)]

    def _row_of(self, member, row):
        """A row of a member."""
        gap = None
        layers = []
        for cost, bits, number in row.layers:
            if bits >> 2 * self.space.size != 0:
                gap = cost
            layers.append((cost, bits & (1 << 2 * self.space.size) - 1))
        layers = tuple(layers)
        if layers not in self.ends_of:
            self.ends_of[layers] = self._listed_ends(layers)
        return (member.place, member.key) + self.space.names_of(row.state) + (self.ends_of[layers], gap)

    def _listed_ends(self, layers):
        """The ends in pairs of a cost and bits, as a tuple of (kind, own, shared, cost)."""
        size = self.space.size
        ends = []
        for cost, bits in layers:
            for end in ones_of(bits):
                ends.append(("end" if end < size else "failed",) + self.space.names_of(end % size) + (cost,))
        return tuple(sorted(ends))


def floor_of(model, lives, steps):
    """The floor of a model whose lives are solved, with the fewest steps or None as its number."""
    builder = Builder(model.space)
    states = []
    for cost, bits, number in lives.layers:
        for state in ones_of(bits & model.space.full):
            states.append((model.space.names_of(state)[1], cost))
    worlds = [world for world in list(model.worlds.values()) if isinstance(world.name, tuple) or has_rows(world)]
    return "floor", steps, tuple(sorted(states)), tuple([builder.table_of(world) for world in worlds])


def has_rows(world):
    """Whether a member of a world is executed."""
    return any([len(member.rows) > 0 for member in list(world.members.values())])
