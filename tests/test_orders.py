"""Point 17: old orders, and an heir for each of them."""

import itertools
import random

from earlyfields.errors import BadOrder, EarlyError, TooMany
from earlyfields.families import Extension, Family
from earlyfields.orders import heir_of, is_old_order, old_orders
from tests.helpers import STRANGE, Case
from tests.test_random import NAMES, bases_by_chance, broken_grade, class_text, members_by_chance, members_text


def chain(many):
    """The text of a chain of classes."""
    return " ".join(["class %s%s { }" % (NAMES[k], "(" + NAMES[k - 1] + ")" if k else "") for k in range(many)])


def fits(family, members, thing):
    """Point 17 word by word, for a tuple of different classes."""
    for name in thing:
        order = family.order(name)
        if not set(order) <= set(thing) or [other for other in thing if other in order] != list(order):
            return False
    return broken_grade(thing, members) is None


class OldOrdersTest(Case):
    def test_without_a_class(self):
        self.assertEqual(old_orders(Family("")), [()])
        self.assertEqual(old_orders(Family("shared s;")), [()])

    def test_one_class(self):
        self.assertEqual(old_orders(Family("class A { }")), [(), ("A",)])
        self.assertEqual(old_orders(family=Family("class Z { init { super; fail; } }")), [(), ("Z",)])

    def test_a_chain(self):
        self.assertEqual(old_orders(Family(chain(4))), [(), ("A",), ("B", "A"), ("C", "B", "A"), ("D", "C", "B", "A")])

    def test_several_bases(self):
        self.assertEqual(old_orders(Family("class A { } class B(A) { } class C(A) { } class D(B, C) { }")), [
            (), ("A",), ("B", "A"), ("B", "C", "A"), ("C", "A"), ("C", "B", "A"), ("D", "B", "C", "A")])

    def test_ascending_whatever_the_order_of_the_text(self):
        self.assertEqual(old_orders(Family("class B { } class A { }")), [(), ("A",), ("A", "B"), ("B",), ("B", "A")])
        self.assertEqual(old_orders(Family("class Z { } class A(Z) { }")), [(), ("A", "Z"), ("Z",)])

    def test_final_members(self):
        self.assertEqual(old_orders(Family("class A { final method m { } } class B { method m { } } class C { method n { } }")), [
            (), ("A",), ("A", "B"), ("A", "B", "C"), ("A", "C"), ("A", "C", "B"), ("B",), ("B", "C"),
            ("C",), ("C", "A"), ("C", "A", "B"), ("C", "B")])
        self.assertEqual(old_orders(Family("class A { final init { } } class B { final init { } }")), [(), ("A",), ("B",)])
        self.assertEqual(old_orders(Family("class A { final init { super; } } class B { init { super; } }")), [(), ("A",), ("A", "B"), ("B",)])

    def test_chained_members(self):
        text = "class A { chained method m { super; } } class B { method m { BODY } }"
        self.assertEqual(old_orders(Family(text.replace("BODY", "super; fail;"))), [(), ("A",), ("A", "B"), ("B",), ("B", "A")])
        for body in ("", "fail;", "fail; super;", "try { super; } catch { }", "call m; super;"):
            self.assertEqual(old_orders(Family(text.replace("BODY", body))), [(), ("A",), ("A", "B"), ("B",)])
        text = "class A { chained method m { fail; } } class B { chained method m { super; } }"
        self.assertEqual(old_orders(Family(text)), [(), ("A",), ("B",), ("B", "A")])
        self.assertEqual(old_orders(Family("class A { chained init { fail; } } class B { chained init { } }")), [(), ("A",), ("B",)])

    def test_65_and_66_and_more(self):
        names = [first + second for first in "ABC" for second in "abcdefghijklmnopqrstuvwxyz"]
        self.assertEqual(len(old_orders(Family("class A { } class B { } class C { }"))), 16)
        four = "class A { } class B { } class C { } class D { }"
        self.assertEqual(len(old_orders(Family(four))), 65)
        # These exclude one another, but Z stands alone, ahead of each one and behind it.
        most = " ".join(["class %s { final init { } }" % name for name in names[:21]]) + " class Z { }"
        self.assertEqual(len(old_orders(Family(most))), 65)
        # Y comes ahead of Z alone.
        family = Family(most + " class Y(Z) { final init { } }")
        self.assertEqual(self.many(family), 66)
        self.fails(lambda: old_orders(family), TooMany, what="orders")
        self.assertIs(is_old_order(family, ("Y", "Z")), True)
        for text in (four + " class E { }", four + " class E(D) { }", " ".join(["class %s { }" % name for name in names[:50]])):
            self.fails(lambda: old_orders(Family(text)), TooMany, what="orders")

    def many(self, family):
        """How many tuples of at most three classes are old orders."""
        return sum([is_old_order(family, row) for size in range(4) for row in itertools.permutations(family.classes, size)])

    def test_the_list_is_new(self):
        family = Family("class A { }")
        old_orders(family).append("x")
        self.assertEqual(old_orders(family), [(), ("A",)])

    def test_an_extension_has_old_classes_only(self):
        wide = Family("class A { }").extended("class H { } class J(A, H) { }")
        self.assertEqual(old_orders(wide), [(), ("A",), ("A", "H"), ("H",), ("H", "A"), ("J", "A", "H")])
        self.assertIs(is_old_order(wide, ("J", "A", "H")), True)
        self.assertIs(is_old_order(wide.family, ("H",)), False)

    def test_fifty_classes(self):
        names = [first + second for first in "ABCDE" for second in "abcdefghij"]
        family = Family(" ".join(["class %s%s { init { super; } }" % (name, "(" + names[k - 1] + ")" if k else "") for k, name in enumerate(names)]))
        self.assertEqual(old_orders(family), sorted([tuple(names[:k][::-1]) for k in range(51)]))

    def test_by_chance_as_the_document_says(self):
        rng = random.Random(17)
        sizes = []
        for _ in range(250):
            bases = bases_by_chance(rng, 4)
            members = {name: members_by_chance(rng) for name in NAMES[:4]}
            text = "".join([class_text(name, parents, members_text(members[name])) for name, parents in zip(NAMES, bases)])
            try:
                family = Family(text)
            except EarlyError:
                continue
            rows = [row for size in range(5) for row in itertools.permutations(NAMES[:4], size)]
            expected = sorted([row for row in rows if fits(family, members, row)])
            self.assertEqual(old_orders(family), expected)
            self.assertEqual([row for row in sorted(rows) if is_old_order(family, row)], expected)
            for order in expected:
                self.check_heir(family, order)
            sizes.append(len(expected))
        self.assertTrue(len(sizes) > 60 and max(sizes) > 20, sizes)

    def check_heir(self, family, order):
        """The heir of an old order has it."""
        wide = heir_of(family, order)
        self.assertIs(wide.__class__, Extension)
        self.assertEqual(len(wide.heirs), 1)
        self.assertEqual(wide.old_order(wide.heirs[0]), order)
        self.assertEqual(wide.order(wide.heirs[0]), wide.heirs + order)
        self.assertEqual(wide.family, family)
        self.assertEqual(wide.own_keys(wide.heirs[0]), ())


class IsOldOrderTest(Case):
    def setUp(self):
        self.family = Family("class A { } class B(A) { } class C(A) { } class D(B, C) { }")

    def test_orders(self):
        for order in old_orders(self.family):
            self.assertIs(is_old_order(self.family, order), True)
        self.assertIs(is_old_order(family=self.family, thing=()), True)

    def test_tuples_of_classes_that_are_none(self):
        for thing in (("B",), ("A", "B"), ("A", "A"), ("B", "A", "A"), ("B", "B", "A"), ("D", "C", "B", "A"), ("D", "B", "A"), ("D",),
                      ("B", "A", "C"), ("C", "D", "B", "A"), ("B", "C", "D", "A"), ("A",) * 2000):
            self.assertIs(is_old_order(self.family, thing), False, thing)

    def test_values_of_any_kind(self):
        for thing in [value for value in STRANGE if value not in ((), ("A",))] + [
                [], ["A"], ["B", "A"], "A", "", "BA", {"A": True}, ("A", None), (None,), (True,), (0,), ("a",), ("E",),
                (("A",),), ("A", ("B",)), (["A"],), ("", "A"), ("A", 1), [("A",)], self.family]:
            self.assertIs(is_old_order(self.family, thing), False, thing)


class HeirOfTest(Case):
    TEXT = "shared s; class A { value v; chained init { super; } final method m { look a; } } class B(A) { init { super; } } class H { setter a { } }"

    def test_each_old_order(self):
        family = Family(self.TEXT)
        for order in old_orders(family):
            wide = heir_of(family, order)
            OldOrdersTest.check_heir(self, family, order)
            self.assertTrue(str(wide).startswith(str(family) + "\n"))
            self.assertNotIn(wide.heirs[0], family)
            self.assertEqual(heir_of(family=family, order=order), wide)

    def test_of_a_family_without_a_class(self):
        wide = heir_of(Family(""), ())
        self.assertEqual((len(wide), len(wide.heirs), wide.old_order(wide.heirs[0]), len(wide.family)), (1, 1, (), 0))

    def test_its_name_is_new(self):
        family = Family("class A { }")
        for k in range(1, 30):
            wide = heir_of(family, ("A",))
            self.assertEqual(len(set(wide.classes)), k + 1)
            family = Family(str(wide))

    def test_values_that_are_no_old_orders(self):
        family = Family(self.TEXT)
        for value in [value for value in STRANGE if value not in ((), ("A",))] + [
                ("B",), ("A", "B"), ["A"], ["B", "A"], ("A", "A"), ("Z",), "A", ("A", None)]:
            self.fails(lambda: heir_of(family, value), BadOrder, value=value)

    def test_the_error_has_what_was_passed(self):
        thing = ["A"]
        with self.assertRaises(BadOrder) as caught:
            heir_of(Family(self.TEXT), thing)
        self.assertIs(caught.exception.value, thing)

    def test_fifty_classes(self):
        names = [first + second for first in "ABCDE" for second in "abcdefghij"]
        family = Family(" ".join(["class %s { }" % name for name in names]))
        self.fails(lambda: heir_of(family, ("Aa",)), TooMany, what="classes")
        self.fails(lambda: heir_of(family, ()), TooMany, what="classes")
        self.fails(lambda: heir_of(family, ("Zz",)), BadOrder, value=("Zz",))
        family = Family(" ".join(["class %s { }" % name for name in names[:49]]))
        self.assertEqual(len(heir_of(family, ("Aa", "Ab"))), 50)
        self.assertEqual(len(heir_of(family, tuple(names[:49]))), 50)

    def test_of_an_extension(self):
        wide = Family("class A { }").extended("class H { } class J(A, H) { }")
        for order in old_orders(wide):
            new = heir_of(wide, order)
            self.assertEqual((new.old_order(new.heirs[0]), len(new.heirs)), (order, 1))
            self.assertEqual(new.family, wide)
            self.assertIs(new.family.__class__, Family)
            self.assertEqual(str(new.family), str(wide))

    def test_the_family_stays_as_it_is(self):
        family = Family(self.TEXT)
        text = str(family)
        self.assertIsNot(heir_of(family, ()).family, family)
        self.assertEqual((str(family), family.classes), (text, ("A", "B", "H")))
