"""What a floor claims, and whether it holds."""

from earlyfields.actors import LIFE
from earlyfields.checkers import Checker, claim_row, covers, layered
from earlyfields.claims import Claims, is_cost, is_row


class FloorClaim:
    """What a floor claims of the rows and the lives of a model.

    rows has the members and states of the rows; worlds has the worlds with a table; costs has the costs of the
    states between lives, and of a gap.
    """

    def __init__(self, model, orders):
        self.model = model
        self.orders = orders
        self.claims = Claims(model, orders)
        self.gap = 2 * model.space.size
        self.rows = []
        self.worlds = {}
        self.costs = {}

    def read(self, thing):
        """Reads any value; whether it has the form of a floor."""
        if not is_row(thing, 4) or thing[0] != "floor":
            return False
        word, number, states, tables = thing
        if not isinstance(states, tuple) or not isinstance(tables, tuple):
            return False
        for value in states:
            if not self._read_state(value):
                return False
        for value in tables:
            if not self._read_table(value):
                return False
        return self._read_gap(number, self.costs)

    def _read_gap(self, number, costs):
        """Reads the cost of a gap, or None, into a dict; whether it has the right form."""
        if number is not None:
            costs[self.gap] = number
        return number is None or is_cost(number)

    def _read_state(self, value):
        """Reads a state between lives; whether it has the right form and is new."""
        if not is_row(value, 2) or not is_cost(value[1]):
            return False
        state = self.claims.state_in((), value[0])
        if state is None or state in self.costs:
            return False
        self.costs[state] = value[1]
        return True

    def _read_table(self, value):
        """Reads a world and its rows; whether they have the right form and are new."""
        if not is_row(value, 2) or not isinstance(value[1], tuple):
            return False
        world = self.claims.world_in(value[0])
        if world is None or world.name in self.worlds:
            return False
        self.worlds[world.name] = True
        for row in value[1]:
            if not is_row(row, 6) or not self._read_row(world, row):
                return False
        return True

    def _read_row(self, world, row):
        """Reads a row of a world; whether it has the right form and is new."""
        place, key, own, shared, ends, gap = row
        member = self.claims.member_in(world, place, key)
        state = self.claims.state_in(own, shared)
        if member is None or member.place == LIFE or state is None or state in member.rows:
            return False
        costs = self._read_ends(ends)
        if costs is None or not self._read_gap(gap, costs):
            return False
        claim_row(member, state, layered(costs))
        self.rows.append((member, state))
        return True

    def _read_ends(self, ends):
        """The costs of the ends in any value, as a dict, or None if they have not the right form."""
        if not isinstance(ends, tuple):
            return None
        costs = {}
        for value in ends:
            if not is_row(value, 4):
                return None
            end = self.claims.end_in(value[0], value[1], value[2])
            if end is None or end in costs or not is_cost(value[3]):
                return None
            costs[end] = value[3]
        return costs

    def holds(self):
        """Whether what was read holds."""
        if self.costs.get(0) != 0 or not all([order in self.worlds for order in self.orders]):
            return False
        checker = Checker(self.model.space)
        for member, state in self.rows:
            layers = checker.layers_of(member, state)
            if checker.missing or not covers(member.rows[state].layers, layers, 0):
                return False
        claimed = layered(self.costs)
        for order in self.orders:
            life = self.model.world_of(order).life
            for state in self.costs:
                if state != self.gap:
                    layers = checker.layers_of(life, state)
                    if checker.missing or not covers(claimed, layers, self.costs[state]):
                        return False
        return True
