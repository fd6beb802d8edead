"""The orders of the classes of a family, and whether it is sound."""

from earlyfields.errors import Final, NoClass, NoOrder, NotABase, NotChained, Twice
from earlyfields.steps import begins_with_super, steps_with_paths


def sound_orders(parts):
    """The order of each class of a family with these class parts; raises an error if it is not sound."""
    known = {}
    orders = {}
    for part in parts:
        check_heading(part, known)
        order = order_of(part, orders)
        check_members(part, order)
        known[part.name] = part
        orders[part.name] = order
        check_grades(part.name, [known[owner] for owner in order])
    check_makes(parts, known)
    return orders


def check_heading(part, known):
    """Makes sure that the name of a class is new, and that its bases are known and stand once."""
    if part.name in known:
        raise Twice(part.name)
    seen = {}
    for parent in part.parents:
        if parent not in known:
            raise NoClass(parent)
        if parent in seen:
            raise Twice(parent)
        seen[parent] = True


def order_of(part, orders):
    """The order of a class of whose bases the orders are known."""
    lists = [orders[parent] for parent in part.parents]
    behind = merged(lists + [part.parents])
    if behind is None:
        raise NoOrder(part.name)
    return (part.name,) + behind


def merged(lists):
    """The merge of tuples of classes, or None if there is none."""
    taken = []
    left = [row for row in lists if len(row) > 0]
    while len(left) > 0:
        head = free_head(left)
        if head is None:
            return None
        taken.append(head)
        left = without_head(left, head)
    return tuple(taken)


def free_head(lists):
    """The first class at the beginning of a list that stands in no list behind the first place, or None."""
    behind = {}
    for row in lists:
        for name in row[1:]:
            behind[name] = True
    for row in lists:
        if row[0] not in behind:
            return row[0]
    return None


def without_head(lists, head):
    """The lists without a class that stands in none behind the first place; empty ones are left out."""
    left = []
    for row in lists:
        if row[0] != head:
            left.append(row)
        elif len(row) > 1:
            left.append(row[1:])
    return left


def check_members(part, order):
    """Makes sure that no key stands twice, and that each `of` names an ancestor."""
    seen = {}
    for key, grade, body in part.rows:
        if key in seen:
            raise Twice(key)
        seen[key] = True
        for path, step in steps_with_paths(body):
            if step[0] == "of" and step[1] not in order[1:]:
                raise NotABase(part.name, key, path)


def check_grades(name, ordered):
    """Makes sure that the order of a class, given as class parts, keeps the grades."""
    held = {}
    for part in ordered:
        for key in part.own:
            held.setdefault(key, []).append(part.own[key])
    for key in sorted(held):
        if replaces_final(held[key]):
            raise Final(name, key)
        if breaks_chain(held[key]):
            raise NotChained(name, key)


def replaces_final(members):
    """Whether, of pairs (grade, body) along an order, a final one stands behind another one."""
    return any([grade == "final" for grade, body in members[1:]])


def breaks_chain(members):
    """Whether, of pairs (grade, body) along an order, one without `super` stands ahead of a chained one."""
    loose = False
    for grade, body in members:
        if loose and grade == "chained":
            return True
        if not begins_with_super(body):
            loose = True
    return False


def check_makes(parts, known):
    """Makes sure that each `make` names a class."""
    for part in parts:
        for key in sorted(part.own):
            for path, step in steps_with_paths(part.own[key][1]):
                if step[0] == "make" and step[1] not in known:
                    raise NoClass(step[1])
