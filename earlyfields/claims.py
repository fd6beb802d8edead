"""Reading what any values claim of the rows of a family; what has not the right form is read as None."""

from earlyfields.actors import LIFE, USER


class Claims:
    """Reads the parts of claims about the worlds of a model with some old orders."""

    def __init__(self, model, orders):
        self.model = model
        self.orders = {order: True for order in orders}
        space = model.space
        self.owned = {space.owns[mask]: mask for mask in space.owns}
        self.commons = {space.shares[mask]: mask for mask in space.shares}

    def state_in(self, own, shared):
        """The state with these names."""
        if not are_words(own) or not are_words(shared) or own not in self.owned or shared not in self.commons:
            return None
        return self.owned[own] | self.commons[shared]

    def end_in(self, kind, own, shared):
        """The end of this kind and state, as the place of its bit."""
        state = self.state_in(own, shared)
        if state is not None and kind == "failed":
            return state + self.model.space.size
        return state if kind == "end" else None

    def world_in(self, value):
        """The world of an old order or of a class."""
        if isinstance(value, tuple):
            known = are_words(value) and value in self.orders
        else:
            known = value in self.model.family
        return self.model.world_of(value) if known else None

    def member_in(self, world, place, key):
        """The member of a world at a place with a key; the user and a life count, too."""
        if not isinstance(key, str) or not (isinstance(place, str) or is_integer(place)):
            return None
        if place in world.places:
            return world.member_at(place, key) if world.has_member(place, key) else None
        if not isinstance(world.name, tuple) or key != "init" or (place != USER and place != LIFE):
            return None
        return world.user if place == USER else world.life


def is_row(value, many):
    """Whether any value is a tuple of so many items."""
    return isinstance(value, tuple) and len(value) == many


def are_words(value):
    """Whether any value is a tuple of strings."""
    return isinstance(value, tuple) and all([isinstance(word, str) for word in value])


def is_integer(value):
    """Whether any value is an integer."""
    return isinstance(value, int) and not isinstance(value, bool)


def is_cost(value):
    """Whether any value is an integer not below 0."""
    return is_integer(value) and value >= 0


def is_gap(value):
    """Whether any value has the form of a gap, ("gap", name, owner, key, path)."""
    if not is_row(value, 5) or value[0] != "gap" or not are_words((value[1], value[3])):
        return False
    owner, path = value[2], value[4]
    if not isinstance(owner, str) and not is_integer(owner):
        return False
    return isinstance(path, tuple) and all([is_integer(index) for index in path])
