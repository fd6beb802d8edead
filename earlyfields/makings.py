"""Makings one after another: which orders of classes never show a gap."""

from earlyfields.births import NEAR, Births
from earlyfields.bounds import check_makings
from earlyfields.errors import NoClass, TooMany

MOST_MAKINGS = 5


class Sequence:
    """Classes that are made one after another, and the first gap to which some picks come."""

    def __init__(self, family, classes):
        check_sequence(family, classes)
        self._classes = tuple(classes)
        self.at = None
        self.picks = None
        self.steps = None
        births = Births(family)
        reached = [{0: (0, 0, None)}]
        for index, owner in enumerate(self._classes):
            gap, following = makings_from(births, owner, reached[index])
            if gap is not None:
                self.at = index
                self.steps = gap[0]
                if self.steps <= NEAR:
                    self.picks = picks_through(births, self._classes, reached, gap)
                break
            reached.append(following)

    def __bool__(self):
        return self.at is None

    def __len__(self):
        return len(self._classes)


def check_sequence(family, classes):
    """Raises an error if such a sequence is not to be followed."""
    for name in classes:
        if name not in family:
            raise NoClass(name)
    if len(classes) > MOST_MAKINGS:
        raise TooMany("makings")
    check_makings(family)


def makings_from(births, owner, reached):
    """The first gap, or None, and what is reached behind the makings of a class.

    What is reached is a dict from the bits of the shared names that have a value to (steps, bits ahead, end): the
    fewest steps, and the last making on the way, from which bits it came to which end. A gap is such a tuple, too.
    """
    gap = None
    following = {}
    for shared in reached:
        costs = births.costs_at(owner, shared)
        for end in costs:
            steps = reached[shared][0] + costs[end]
            if births.is_gap(end):
                if gap is None or steps < gap[0]:
                    gap = (steps, shared, end)
            else:
                behind = births.shared_behind(end)
                if behind not in following or steps < following[behind][0]:
                    following[behind] = (steps, shared, end)
    return gap, following


def picks_through(births, classes, reached, gap):
    """The picks of all makings up to a gap, where reached has what is reached ahead of each making."""
    rows = []
    last = gap
    for index in range(len(reached) - 1, -1, -1):
        steps, shared, end = last
        rows.append(births.picks_to(classes[index], shared, end))
        last = reached[index][shared]
    return [pick for picks in rows[::-1] for pick in picks]


def safe_sequences(family, classes):
    """All orders of some classes that never show a gap, ascending."""
    check_sequence(family, classes)
    return list(safe_orders(Births(family), sorted(classes), {0: (0, 0, None)}))


def safe_orders(births, classes, reached):
    """The orders of sorted classes that never show a gap behind what is reached, ascending."""
    if len(classes) == 0:
        return [()]
    orders = []
    for index, owner in enumerate(classes):
        if owner in classes[:index]:
            continue
        gap, following = makings_from(births, owner, reached)
        if gap is None:
            rest = classes[:index] + classes[index + 1:]
            orders.extend([(owner,) + order for order in safe_orders(births, rest, following)])
    return orders


def first_safe(family, classes):
    """The first order of some classes that never shows a gap, or None."""
    orders = safe_sequences(family, classes)
    return orders[0] if len(orders) > 0 else None
