"""Moving the steps of `init` bodies, so that a family becomes safe."""

from earlyfields.bounds import check_judged
from earlyfields.claims import is_integer
from earlyfields.errors import BadOrder, NoClass, NotChained, TooMany
from earlyfields.families import Family
from earlyfields.orders import old_orders
from earlyfields.solved import is_safe
from earlyfields.texts import write_block

MOST_MOVES = 24


class Move:
    """A new order of steps for each class with an `init`, and the family in which they have it."""

    def __init__(self, changes, family):
        self.changes = {owner: changes[owner] for owner in changes}
        self.family = family
        self.inversions = inversions_in(changes)
        # Kept apart, since the dict of the attribute may be changed.
        self._reordered = tuple([owner for owner in changes if inversions_of(changes[owner]) > 0])

    def __len__(self):
        return len(self._reordered)


def moved(family, changes):
    """The family in which the `init` of each class in a dict has its steps in the order that stands there."""
    for name in sorted(changes):
        if name not in family or "init" not in family.own_keys(name):
            raise NoClass(name)
    for owner in family.classes:
        if owner in changes and not is_permutation(changes[owner], len(family.body(owner, "init"))):
            raise BadOrder(changes[owner])
    return moved_family(family, changes)


def is_permutation(value, many):
    """Whether any value is a tuple of so many indexes, each once."""
    if not isinstance(value, tuple) or not all([is_integer(index) for index in value]):
        return False
    return sorted(value) == list(range(many))


def moved_family(family, changes):
    """The family with its steps in these orders, which are permutations."""
    lines = str(family).split("\n")
    ahead = len(lines) - len(family)
    for index, owner in enumerate(family.classes):
        if owner in changes:
            body = family.body(owner, "init")
            ordered = tuple([body[at] for at in changes[owner]])
            # No other word of a class has a brace behind `init`, so this stands there once.
            line = lines[ahead + index]
            lines[ahead + index] = line.replace("init " + write_block(body), "init " + write_block(ordered))
    return Family("\n".join(lines))


def least_move(family, *, sealed=()):
    """The move with the fewest inversions, of these the least one, after which a family is safe, or None."""
    moves = all_moves(family)
    check_judged(family, sealed)
    rows = []
    for index, changes in enumerate(moves):
        try:
            new = moved_family(family, changes)
        except NotChained:
            continue
        rows.append((inversions_in(changes), index, new, old_orders(new)))
    for inversions, index, new, orders in sorted(rows, key=lambda row: (row[0], row[1])):
        if is_safe(new, orders, sealed):
            return Move(moves[index], new)
    return None


def all_moves(family):
    """All moves of a family, sound or not, ascending, as dicts from classes to permutations."""
    owners = [owner for owner in family.classes if "init" in family.own_keys(owner)]
    many = 1
    for owner in owners:
        for length in range(2, len(family.body(owner, "init")) + 1):
            many = many * length
    if many > MOST_MOVES:
        raise TooMany("moves")
    moves = [{}]
    for owner in owners:
        orders = permutations_of(list(range(len(family.body(owner, "init")))))
        moves = [with_order(changes, owner, order) for changes in moves for order in orders]
    return moves


def with_order(changes, owner, order):
    """A move with the order of one more class."""
    longer = {name: changes[name] for name in changes}
    longer[owner] = order
    return longer


def permutations_of(indexes):
    """All orders of ascending indexes, as tuples, ascending."""
    if len(indexes) == 0:
        return [()]
    orders = []
    for at, index in enumerate(indexes):
        orders.extend([(index,) + rest for rest in permutations_of(indexes[:at] + indexes[at + 1:])])
    return orders


def inversions_in(changes):
    """The inversions of all permutations of a move."""
    return sum([inversions_of(changes[owner]) for owner in changes])


def inversions_of(order):
    """How many pairs of a permutation stand in descending order."""
    return len([index for at, index in enumerate(order) for other in order[at + 1:] if index > other])
