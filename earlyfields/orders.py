"""Old orders: what the orders of heirs can be, without the heirs in them."""

from earlyfields.errors import BadOrder, TooMany
from earlyfields.families import Extension, Family
from earlyfields.parts import ClassPart, class_line
from earlyfields.steps import begins_with_super
from earlyfields.words import CAPITAL, SMALL

MOST_ORDERS = 65


def old_orders(family):
    """All old orders of a family, ascending."""
    orders = [()]
    at = 0
    while at < len(orders):
        # Without its first class an old order is one still, so each one comes of a shorter one.
        orders.extend(longer_orders(family, orders[at]))
        if len(orders) > MOST_ORDERS:
            raise TooMany("orders")
        at = at + 1
    return sorted(orders)


def is_old_order(family, thing):
    """Whether any value is an old order of a family."""
    if not isinstance(thing, tuple) or not all([name in family for name in thing]):
        return False
    for at, name in enumerate(thing):
        behind = thing[at + 1:]
        if not may_stand_ahead(family, name, behind, held_grades(family, behind)):
            return False
    return True


def heir_of(family, order):
    """An extension of a family by one heir, without members, that has an old order."""
    if not is_old_order(family, order):
        raise BadOrder(order)
    heir = ClassPart(new_class(family), order, (), {}, ())
    # A family of its own, since the heirs of an extension are old classes here.
    return Extension(Family(str(family)), class_line(heir))


def longer_orders(family, order):
    """The old orders that have one class more, ahead of an old order."""
    held = held_grades(family, order)
    return [(name,) + order for name in family.classes if may_stand_ahead(family, name, order, held)]


def may_stand_ahead(family, name, order, held):
    """Whether a class ahead of an old order, which has the held grades, makes an old order."""
    if name in order or not is_within(family.order(name)[1:], order):
        return False
    return keeps_grades(family, name, held)


def is_within(names, order):
    """Whether names stand in an order one behind another, perhaps with others between."""
    at = 0
    for name in order:
        if at < len(names) and names[at] == name:
            at = at + 1
    return at == len(names)


def held_grades(family, order):
    """The pairs of a key and a grade that members of the classes of an order have, as keys of a dict."""
    held = {}
    for name in order:
        for key in family.own_keys(name):
            held[(key, family.grade(name, key))] = True
    return held


def keeps_grades(family, name, held):
    """Whether a class keeps the grades of members that stand behind it."""
    for key in family.own_keys(name):
        if (key, "final") in held:
            return False
        if (key, "chained") in held and not begins_with_super(family.body(name, key)):
            return False
    return True


def new_class(family):
    """A class name that no class of a family has."""
    for first in CAPITAL:
        for second in SMALL:
            if first + second not in family:
                return first + second
    return None
