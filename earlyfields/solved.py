"""Families of which all lives are solved."""

from earlyfields.actors import Lives
from earlyfields.solving import Solver
from earlyfields.tracing import cost_of
from earlyfields.worlds import Model


class Solved:
    """The lives in the worlds of the old orders of a family, of which heirs leave the sealed keys alone.

    If it is eager, it stops at any gap, and then only tells that there is one. gap is the place of the bit of gaps.
    """

    def __init__(self, family, orders, sealed, eager):
        self.orders = orders
        self.model = Model(family, open_keys(family, sealed), False)
        self.gap = 2 * self.model.space.size
        solver = Solver(self.model.space, eager)
        self.lives = solver.row_of(Lives([self.model.world_of(order) for order in orders]), 0)
        solver.run()
        self.stopped = solver.stopped

    def fewest_steps(self):
        """The fewest steps of old bodies after which a gap comes, or None."""
        if self.lives.out >> self.gap == 0:
            return None
        return cost_of(self.lives, self.gap)

    def makings(self):
        """A model with those rows alone that are executed while the objects of these lives are made."""
        model = Model(self.model.family, self.model.open_keys, False)
        solver = Solver(model.space, False)
        for order in self.orders:
            world = model.world_of(order)
            init = world.found("init")
            for shared in model.space.listed_states(self.lives.out & model.space.full):
                if init is not None:
                    solver.row_of(init, world.born | shared)
        solver.run()
        return model


def open_keys(family, sealed):
    """The keys of a family that are not sealed."""
    return [key for key in family.all_keys() if key not in sealed]


def is_safe(family, orders, sealed):
    """Whether no life of a family with these old orders comes to a gap."""
    return not Solved(family, orders, sealed, True).stopped
