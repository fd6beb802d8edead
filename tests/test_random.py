"""Families by chance, compared with what points 7, 8, 16 and 17 say word by word."""

import random

from earlyfields.errors import EarlyError, Final, NoOrder, NotChained
from earlyfields.families import Family
from tests.helpers import Case

NAMES = ("A", "B", "C", "D", "E", "F", "G")


def bases_by_chance(rng, many):
    """Some earlier classes as the bases of each class."""
    return [rng.sample(NAMES[:k], min(k, rng.choice([0, 1, 1, 2, 2, 3]))) for k in range(many)]


def class_text(name, bases, parts=""):
    """The text of a class."""
    return "class " + name + ("(" + ", ".join(bases) + ")" if bases else "") + " { " + parts + " }\n"


def python_orders(bases):
    """The orders that Python itself gives to such classes, and the first class that has none, or None."""
    made, orders = {}, {}
    for name, parents in zip(NAMES, bases):
        try:
            made[name] = type(name, tuple([made[parent] for parent in parents]), {})
        except TypeError:
            return orders, name
        orders[name] = tuple([kind.__name__ for kind in made[name].__mro__[:-1]])
    return orders, None


def broken_grade(order, members):
    """The first error of point 8 about grades for an order of classes: its class and its key, or None."""
    for key in sorted({key for name in order for key in members[name]}):
        rows = [members[name][key] for name in order if key in members[name]]
        pairs = [(ahead, behind) for k, behind in enumerate(rows) for ahead in rows[:k]]
        if any(behind[0] == "final" for ahead, behind in pairs):
            return Final, key
        if any(behind[0] == "chained" and not ahead[1].startswith("super;") for ahead, behind in pairs):
            return NotChained, key
    return None


def members_by_chance(rng):
    """For some keys a grade and the text of a body."""
    keys = [key for key in ("init", "method m", "getter a") if rng.random() < 0.35]
    return {key: (rng.choice(["open", "open", "chained", "final"]), rng.choice(["super;", "super; fail;", "fail;", ""]))
            for key in keys}


def members_text(members):
    """The text of these members."""
    return " ".join([("" if grade == "open" else grade + " ") + key + " { " + body + " }"
                     for key, (grade, body) in members.items()])


class OrdersTest(Case):
    def test_the_orders_are_those_of_python(self):
        rng = random.Random(1)
        without = 0
        for _ in range(1500):
            bases = bases_by_chance(rng, 7)
            text = "".join([class_text(name, parents) for name, parents in zip(NAMES, bases)])
            orders, bad = python_orders(bases)
            if bad is not None:
                without += 1
                self.fails(lambda: Family(text), NoOrder, name=bad)
                continue
            family = Family(text)
            self.assertEqual({name: family.order(name) for name in family.classes}, orders)
        self.assertTrue(100 < without < 1400, without)


class GradesTest(Case):
    def test_the_first_class_whose_order_does_not_keep_the_grades(self):
        rng = random.Random(2)
        seen = []
        for _ in range(3000):
            bases = bases_by_chance(rng, 5)
            orders, bad = python_orders(bases)
            if bad is not None:
                continue
            members = {name: members_by_chance(rng) for name in NAMES[:5]}
            text = "".join([class_text(name, parents, members_text(members[name])) for name, parents in zip(NAMES, bases)])
            expected = [(name, broken_grade(orders[name], members)) for name in NAMES[:5]]
            expected = [(error[0], name, error[1]) for name, error in expected if error is not None]
            if expected:
                self.fails(lambda: Family(text), expected[0][0], name=expected[0][1], key=expected[0][2])
                seen.append(expected[0][0])
            else:
                self.check_members(Family(text), members)
                seen.append(None)
        self.assertTrue(min([seen.count(kind) for kind in (None, Final, NotChained)]) > 200)

    def check_members(self, family, members):
        """Where keys are found is where the order says."""
        for name in family.classes:
            order = family.order(name)
            for key in ("init", "method m", "getter a", "setter a"):
                owners = [owner for owner in order if key in members[owner]]
                self.assertEqual(family.found(name, key), (owners + [None])[0])
                for owner in order:
                    behind = [other for other in owners if order.index(other) > order.index(owner)]
                    self.assertEqual(family.after(name, owner, key), (behind + [None])[0])
            self.assertEqual(family.own_keys(name), tuple(sorted(members[name])))


class OldOrdersTest(Case):
    def test_an_order_without_heirs_is_an_old_order(self):
        rng = random.Random(3)
        tried = 0
        for _ in range(1000):
            bases = bases_by_chance(rng, 7)
            rows = [class_text(name, parents) for name, parents in zip(NAMES, bases)]
            try:
                wide = Family("".join(rows[:3])).extended("".join(rows[3:]))
            except EarlyError:
                continue
            tried += 1
            self.assertEqual(wide.heirs, NAMES[3:])
            for name in NAMES:
                order = wide.old_order(name)
                self.assertEqual(order, tuple([owner for owner in wide.order(name) if owner in NAMES[:3]]))
                for owner in order:
                    self.assertEqual([other for other in order if other in wide.order(owner)], list(wide.old_order(owner)))
                # A class with these bases has this order.
                bare = wide.family.extended(class_text("H", order))
                self.assertEqual(bare.order("H"), ("H",) + order)
        self.assertTrue(tried > 200, tried)
