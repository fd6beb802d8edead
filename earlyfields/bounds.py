"""What families may have at most, where they are judged or where makings end."""

from earlyfields.errors import BadKey, TooMany
from earlyfields.orders import old_orders
from earlyfields.steps import steps_with_paths
from earlyfields.texts import is_key


def step_count(family):
    """How many steps the bodies of a family have, those in blocks, too."""
    many = 0
    for owner in family.classes:
        for key in family.own_keys(owner):
            many = many + len(steps_with_paths(family.body(owner, key)))
    return many


def check_makings(family):
    """Raises TooMany if makings of the family are too many to follow."""
    check_many(family.classes, 10, "classes")
    check_many(family.names, 5, "names")
    if step_count(family) > 300:
        raise TooMany("steps")


def check_judged(family, sealed):
    """The old orders of a family that may be judged with these sealed keys; raises BadKey or TooMany otherwise."""
    for key in sealed:
        if not is_key(key):
            raise BadKey(key)
    check_many(family.classes, 5, "classes")
    check_many(family.names, 5, "names")
    check_many(family.methods, 4, "methods")
    if step_count(family) > 200:
        raise TooMany("steps")
    return old_orders(family)


def check_many(rows, most, what):
    """Raises TooMany if there are more than so many rows."""
    if len(rows) > most:
        raise TooMany(what)
