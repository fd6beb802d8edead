"""What a derivation claims, and whether it is one."""

from earlyfields.actors import LIFE
from earlyfields.checkers import Checker, claim_row
from earlyfields.claims import Claims, is_cost, is_gap, is_integer, is_row


class SeenClaim:
    """What a derivation claims of the rows and the lives of a model, which tells gaps apart.

    lives has, for the index of each row of a life, the state from which it begins and the place of its end.
    """

    def __init__(self, model, orders):
        self.model = model
        self.claims = Claims(model, orders)
        self.checker = Checker(model.space)
        self.gap = 2 * model.space.size
        self.lives = {}

    def read(self, thing):
        """Reads any value; whether it is a derivation."""
        if not is_row(thing, 3) or thing[0] != "seen":
            return False
        word, rows, lives = thing
        if not isinstance(rows, tuple) or not isinstance(lives, tuple):
            return False
        for index, row in enumerate(rows):
            if not is_row(row, 7) or not self._read_row(index, row):
                return False
        return self._is_sequence(lives)

    def _read_row(self, index, row):
        """Reads a row; whether it follows from those that were read before."""
        name, place, key, own, shared, value, cost = row
        world = self.claims.world_in(name)
        state = self.claims.state_in(own, shared)
        if world is None or state is None or not is_cost(cost):
            return False
        member = self.claims.member_in(world, place, key)
        if member is None or (member.place == LIFE and own != ()):
            return False
        layers = self.checker.layers_of(member, state)
        end = self._read_end(value)
        if end is None or not comes(layers, end, cost):
            return False
        if member.place == LIFE:
            self.lives[index] = (state, end)
        else:
            self._add_claim(member, state, end, cost)
        return True

    def _read_end(self, value):
        """The place of the end in any value; of a gap only if one may show there."""
        if is_gap(value):
            bit = self.model.gaps.get(value[1:])
            return None if bit is None else self.gap + bit.bit_length() - 1
        if not is_row(value, 3):
            return None
        return self.claims.end_in(value[0], value[1], value[2])

    def _add_claim(self, member, state, end, cost):
        """Claims one more end of a row."""
        if state not in member.rows:
            claim_row(member, state, [])
        member.rows[state].layers.append((cost, 1 << end, 0))
        # What all actors do there was worked out without this end.
        common = member.world.common
        common.rows = {}

    def _is_sequence(self, lives):
        """Whether the items of a tuple are the indexes of lives one after another, up to one that shows a gap."""
        state = 0
        for number, index in enumerate(lives):
            if not is_integer(index) or index not in self.lives:
                return False
            begun, end = self.lives[index]
            if begun != state or (end >= self.gap) != (number == len(lives) - 1):
                return False
            state = end
        return len(lives) > 0


def comes(layers, end, cost):
    """Whether an end is in layers at no higher cost."""
    return any([least <= cost and bits >> end & 1 == 1 for least, bits, number in layers])
