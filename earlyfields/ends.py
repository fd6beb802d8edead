"""The ends of a making: how it may end, after how many steps, and with which picks."""

from earlyfields.births import NEAR, Births
from earlyfields.bounds import check_makings
from earlyfields.claims import are_words, is_gap, is_row
from earlyfields.errors import BadName, Far, NoClass, NoEnd


class Ends:
    """The ends of the making of an object of a class, from given shared names that have a value."""

    def __init__(self, family, owner, *, shared=()):
        if owner not in family:
            raise NoClass(owner)
        for name in shared:
            if name not in family.shared:
                raise BadName(name)
        check_makings(family)
        self._owner = owner
        self._births = Births(family)
        self._shared = self._births.space.state_of((), list({name: True for name in shared}))
        self._costs = self._births.costs_at(owner, self._shared)
        self._places = {}
        for end in self._costs:
            # Failures with different own names are one end; the first one costs the least.
            self._places.setdefault(self._births.written(end), end)
        self._rows = sorted(list(self._places))

    def __len__(self):
        return len(self._rows)

    def __iter__(self):
        return iter(self._rows)

    def __contains__(self, thing):
        return is_end(thing) and thing in self._places

    def listed(self):
        """All ends, ascending."""
        return list(self._rows)

    def steps_to(self, end):
        """The fewest steps of a making with any value that is one of the ends."""
        if end not in self:
            raise NoEnd(end)
        return self._costs[self._places[end]]

    def picks_to(self, end):
        """The picks with which the making ends so after just that number of steps."""
        steps = self.steps_to(end)
        if steps > NEAR:
            raise Far(steps)
        return self._births.picks_to(self._owner, self._shared, self._places[end])


def is_end(value):
    """Whether any value has the form of an end."""
    if is_row(value, 2):
        return value[0] == "failed" and are_words(value[1])
    if is_row(value, 3):
        return value[0] == "made" and are_words(value[1]) and are_words(value[2])
    return is_gap(value)
