"""States as numbers, and sets of states as numbers."""


class Space:
    """The states over the names of a family.

    A state is a number with a bit for each name that the object owns and, above these, a bit for each shared name
    that has a value as such. Several states together are a number, too, with a bit for each of them.
    """

    def __init__(self, family):
        many = len(family.names)
        self.own_bits = {name: 1 << index for index, name in enumerate(family.names)}
        self.shared_bits = {name: 1 << many + index for index, name in enumerate(family.shared)}
        self.own_mask = (1 << many) - 1
        self.size = 1 << many + len(family.shared)
        self.full = (1 << self.size) - 1
        self.kept_bits = {name: self.shared_bits.get(name, self.own_bits[name]) for name in family.names}
        self._keeping = {name: self._states_with(self.kept_bits[name]) for name in family.names}
        self.having = {name: self._keeping[name] | self._states_with(self.own_bits[name]) for name in family.names}
        self.owns = self._all_names(self.own_bits)
        self.shares = self._all_names(self.shared_bits)
        self._lists = {}

    def _states_with(self, bit):
        """All states that have a bit, together."""
        return self.full // ((1 << bit) + 1) << bit

    def _all_names(self, bits):
        """All tuples of names, in ascending order, for the numbers that have just their bits."""
        rows = {0: ()}
        for name in bits:
            for mask in list(rows):
                rows[mask | bits[name]] = rows[mask] + (name,)
        return rows

    def state_of(self, own, shared):
        """The state in which an object owns the names in own, while those in shared have a value as such."""
        return sum([self.own_bits[name] for name in own]) + sum([self.shared_bits[name] for name in shared])

    def names_of(self, state):
        """The pair of the names that an object owns in a state, and of the shared ones that have a value as such."""
        return self.owns[state & self.own_mask], self.shares[state & ~self.own_mask]

    def listed_states(self, bits):
        """The states in bits, ascending, as a list that is not to be changed."""
        known = self._lists.get(bits)
        if known is None:
            known = ones_of(bits)
            self._lists[bits] = known
        return known

    def kept(self, bits, name):
        """The states in bits after a name got its value."""
        keeping = bits & self._keeping[name]
        return keeping | (bits ^ keeping) << self.kept_bits[name]

    def returned(self, bits, own):
        """The states of an object that owns what own tells, from those in which another object ended."""
        states = 0
        for state in self.listed_states(bits):
            states = states | 1 << (state & ~self.own_mask | own)
        return states


def ones_of(bits):
    """The places of the bits of a number that are 1, ascending."""
    places = []
    while bits != 0:
        low = bits & -bits
        places.append(low.bit_length() - 1)
        bits = bits ^ low
    return places
