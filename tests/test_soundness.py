"""Points 7 and 8: the orders of the classes, and each error of a family that is not sound."""

from earlyfields.errors import Final, NoClass, NoOrder, NotABase, NotChained, Twice
from earlyfields.families import Family
from tests.helpers import Case


class OrderTest(Case):
    def test_the_examples(self):
        family = Family("class A { } class B(A) { } class C(A) { } class D(B, C) { }")
        self.assertEqual(family.order("D"), ("D", "B", "C", "A"))
        self.fails(lambda: Family("class A { } class B(A) { } class C(A, B) { }"), NoOrder, name="C")

    def test_without_bases_and_in_a_row(self):
        family = Family("class A { } class B(A) { } class C(B) { } class D { }")
        self.assertEqual([family.order(name) for name in family.classes],
                         [("A",), ("B", "A"), ("C", "B", "A"), ("D",)])

    def test_the_bases_keep_their_order(self):
        family = Family("class A { } class B { } class C { } class D(C, A, B) { } class E(A) { } class F(B, E) { }")
        self.assertEqual(family.order("D"), ("D", "C", "A", "B"))
        self.assertEqual(family.order("F"), ("F", "B", "E", "A"))

    def test_several_bases_on_several_levels(self):
        family = Family("class O { } class A(O) { } class B(O) { } class C(O) { } class D(O) { } class E(O) { } "
                        "class K(A, B, C) { } class L(D, B, E) { } class M(D, A) { } class Z(K, L, M) { }")
        self.assertEqual(family.order("Z"), ("Z", "K", "L", "M", "D", "A", "B", "C", "E", "O"))

    def test_orders_that_contradict_one_another(self):
        text = "class A { } class B { } class C(A, B) { } class D(B, A) { } "
        self.assertEqual(Family(text).order("D"), ("D", "B", "A"))
        self.fails(lambda: Family(text + "class E(C, D) { }"), NoOrder, name="E")
        self.fails(lambda: Family(text + "class E { } class F(E, C, D) { } class G(C, D) { }"), NoOrder, name="F")


class HeadingTest(Case):
    def test_a_class_stands_twice(self):
        self.fails(lambda: Family("class A { } class B { } class A { }"), Twice, name="A")

    def test_a_base_is_no_earlier_class(self):
        self.fails(lambda: Family("class A(B) { }"), NoClass, name="B")
        self.fails(lambda: Family("class A(B) { } class B { }"), NoClass, name="B")
        self.fails(lambda: Family("class A(A) { }"), NoClass, name="A")

    def test_a_base_stands_twice(self):
        self.fails(lambda: Family("class A { } class B(A, A) { }"), Twice, name="A")
        self.fails(lambda: Family("class A { } class B { } class C(A, B, A) { }"), Twice, name="A")

    def test_the_bases_are_checked_one_after_another(self):
        self.fails(lambda: Family("class A { } class B(A, A, X) { }"), Twice, name="A")
        self.fails(lambda: Family("class A { } class B(A, X, A) { }"), NoClass, name="X")
        self.fails(lambda: Family("class B(X, X) { }"), NoClass, name="X")
        self.fails(lambda: Family("class B(Y, X) { }"), NoClass, name="Y")

    def test_the_name_comes_ahead_of_the_bases(self):
        self.fails(lambda: Family("class A { } class A(X) { }"), Twice, name="A")
        self.fails(lambda: Family("class A { } class A(A) { }"), Twice, name="A")

    def test_the_bases_come_ahead_of_the_order(self):
        text = "class A { } class B(A) { } "
        self.fails(lambda: Family(text + "class C(A, B, X) { }"), NoClass, name="X")
        self.fails(lambda: Family(text + "class C(A, B, B) { }"), Twice, name="B")

    def test_the_order_comes_ahead_of_the_members(self):
        text = "class A { } class B(A) { } "
        self.fails(lambda: Family(text + "class C(A, B) { init { of X; } init { } }"), NoOrder, name="C")


class MembersTest(Case):
    def test_a_key_stands_twice(self):
        for key in ("init", "method m", "getter a", "setter a"):
            self.fails(lambda: Family("class A { " + key + " { } final " + key + " { fail; } }"), Twice, name=key)
        self.assertEqual(len(Family("class A { method a { } getter a { } setter a { } init { } method b { } }")), 1)

    def test_of_names_an_ancestor(self):
        text = "class A { } class B(A) { } class X { } "
        Family(text + "class C(B) { init { of A; of B; } }")
        self.fails(lambda: Family(text + "class C(B) { init { of A; of C; } }"), NotABase, owner="C", key="init", path=(1,))
        self.fails(lambda: Family(text + "class C(B) { init { of X; } }"), NotABase, owner="C", key="init", path=(0,))
        self.fails(lambda: Family(text + "class C(B) { setter a { of Y; } }"), NotABase, owner="C", key="setter a", path=(0,))
        self.fails(lambda: Family("class A { method m { of B; } } class B(A) { }"), NotABase,
                   owner="A", key="method m", path=(0,))

    def test_the_first_of_by_its_path(self):
        for body, path in (
            ("loop { of X; }", (0, 0, 0)),
            ("fail; if a { } else { super; of X; } of X;", (1, 1, 1)),
            ("if a { fail; } else { of X; }", (0, 1, 0)),
            ("try { } catch { of X; }", (0, 1, 0)),
            ("either { } or { } or { fail; fail; of X; } of Y;", (0, 2, 2)),
            ("either { } or { loop { of X; } } or { of X; } of Y;", (0, 1, 0, 0, 0)),
            ("loop { loop { loop { loop { loop { loop { of X; } } } } } }", (0, 0, 0, 0, 0, 0, 0, 0, 0, 0, 0, 0, 0)),
            ("loop { } super; of X;", (2,)),
        ):
            self.fails(lambda: Family("class A { method m { " + body + " } }"), NotABase,
                       owner="A", key="method m", path=path)

    def test_the_members_are_checked_in_the_order_of_the_text(self):
        self.fails(lambda: Family("class A { method z { of X; } init { of X; } init { } }"), NotABase,
                   owner="A", key="method z", path=(0,))
        self.fails(lambda: Family("class A { method z { } init { } method z { of X; } init { of X; } }"), Twice,
                   name="method z")
        self.fails(lambda: Family("class A { init { } method z { of X; } init { } }"), NotABase,
                   owner="A", key="method z", path=(0,))

    def test_the_members_come_ahead_of_the_grades(self):
        text = "class A { final method a { } } "
        self.fails(lambda: Family(text + "class B(A) { method a { } init { of X; } }"), NotABase,
                   owner="B", key="init", path=(0,))
        self.fails(lambda: Family(text + "class B(A) { method a { } init { } init { } }"), Twice, name="init")


class FinalTest(Case):
    def test_a_final_member_is_replaced(self):
        for key in ("init", "method m", "getter a", "setter a"):
            text = "class A { final " + key + " { } } class B(A) { "
            self.assertEqual(len(Family(text + "}")), 2)
            self.fails(lambda: Family(text + key + " { super; } }"), Final, name="B", key=key)
            self.fails(lambda: Family(text + "} class C(B) { final " + key + " { super; } }"), Final, name="C", key=key)

    def test_another_key_is_no_replacement(self):
        self.assertEqual(len(Family("class A { final method a { } } class B(A) { method b { } getter a { } init { } }")), 2)

    def test_a_final_member_may_stand_ahead(self):
        family = Family("class A { method m { } } class B(A) { final method m { } } class C(B) { }")
        self.assertEqual(family.found("C", "method m"), "B")
        Family("class A { final method m { } } class B { method m { } } class C(A, B) { }")

    def test_classes_that_meet_in_one_order(self):
        text = "class A { final method m { } } class B { method m { } } "
        self.fails(lambda: Family(text + "class C(B, A) { }"), Final, name="C", key="method m")
        self.fails(lambda: Family(text + "class C(A, B) { } class D { } class E(D, B, A) { } class F(B, A) { }"),
                   Final, name="E", key="method m")

    def test_two_final_ones(self):
        self.fails(lambda: Family("class A { final init { } } class B { final init { } } class C(A, B) { }"),
                   Final, name="C", key="init")


class ChainedTest(Case):
    def test_a_member_ahead_begins_with_super(self):
        text = "class A { chained method m { } } class B(A) { method m { "
        for body in ("super; ", "super; fail; ", "super; super; "):
            self.assertEqual(len(Family(text + body + "} }")), 2)
        for body in ("", "fail; ", "fail; super; ", "loop { super; } ", "try { super; } catch { } ", "set a; ", "call m; "):
            self.fails(lambda: Family(text + body + "} }"), NotChained, name="B", key="method m")
            self.fails(lambda: Family(text.replace("B(A) {", "B(A) { } class C(B) { chained") + body + "} }"),
                       NotChained, name="C", key="method m")

    def test_each_kind_of_key(self):
        for key in ("init", "method m", "getter a", "setter a"):
            self.fails(lambda: Family("class A { chained " + key + " { } } class B(A) { " + key + " { } }"),
                       NotChained, name="B", key=key)
            self.fails(lambda: Family("class A { chained " + key + " { } } class B(A) { final " + key + " { } }"),
                       NotChained, name="B", key=key)

    def test_the_chained_member_itself_and_those_behind_it_are_free(self):
        Family("class A { method m { } } class B(A) { chained method m { fail; } } class C(B) { method m { super; } }")

    def test_all_ahead_of_the_last_chained_one(self):
        text = "class A { chained init { } } class B(A) { init { super; } } "
        self.fails(lambda: Family(text + "class C(B) { init { } }"), NotChained, name="C", key="init")
        self.fails(lambda: Family(text + "class C { init { } } class D(C, B) { }"), NotChained, name="D", key="init")
        Family(text + "class C { init { } } class D(B, C) { }")
        self.fails(lambda: Family("class A { chained init { } } class B { chained init { } } class C(B, A) { }"),
                   NotChained, name="C", key="init")
        Family("class A { chained init { } } class B { chained init { super; } } class C(B, A) { }")


class SeveralTest(Case):
    def test_the_least_key_comes_first(self):
        text = "class A { final method b { } chained method a { } final getter z { } } class B(A) { "
        self.fails(lambda: Family(text + "method b { } method a { } }"), NotChained, name="B", key="method a")
        self.fails(lambda: Family(text + "method b { } method a { super; } }"), Final, name="B", key="method b")
        self.fails(lambda: Family(text + "method b { } method a { } getter z { } }"), Final, name="B", key="getter z")

    def test_for_one_key_final_comes_first(self):
        text = "class A { final init { } } class B { chained init { } } class C { init { } } "
        self.fails(lambda: Family(text + "class D(C, B, A) { }"), Final, name="D", key="init")
        self.fails(lambda: Family(text + "class D(C, A, B) { }"), Final, name="D", key="init")
        self.fails(lambda: Family(text + "class D(C, B) { }"), NotChained, name="D", key="init")

    def test_the_earlier_class_comes_first(self):
        self.fails(lambda: Family("class A { final init { } } class B(A) { init { } } class B { } class C(X) { }"),
                   Final, name="B", key="init")
        self.fails(lambda: Family("class A { init { of B; } } class B(X) { }"), NotABase, owner="A", key="init", path=(0,))
        self.fails(lambda: Family("class A(X) { } class B { init { } init { } }"), NoClass, name="X")
        self.fails(lambda: Family("class A { init { } init { } } class A { }"), Twice, name="init")


class MakeTest(Case):
    def test_a_class_of_the_family(self):
        family = Family("class A { init { make A; make B; loop { make C; } } } class B { method m { make A; } } class C(B) { }")
        self.assertEqual(family.body("A", "init"), (("make", "A"), ("make", "B"), ("loop", (("make", "C"),))))

    def test_no_class_of_the_family(self):
        self.fails(lambda: Family("class A { init { make B; } }"), NoClass, name="B")
        self.fails(lambda: Family("class A { init { make A; if a { } else { try { } catch { make X; } } } }"), NoClass, name="X")

    def test_the_first_by_class_then_key_then_path(self):
        text = "class A { setter z { make F; } method m { loop { fail; make D; } make E; } init { } } class B { getter a { make C; } }"
        for missing in ("D", "E", "F", "C"):
            self.fails(lambda: Family(text), NoClass, name=missing)
            text = text.replace("make " + missing + ";", "")
        Family(text)

    def test_only_after_all_classes(self):
        text = "class A { init { make X; } } class B(A) { "
        self.fails(lambda: Family(text + "} class A { }"), Twice, name="A")
        self.fails(lambda: Family(text + "} class C(Y) { }"), NoClass, name="Y")
        self.fails(lambda: Family(text + "} class C(A, B) { }"), NoOrder, name="C")
        self.fails(lambda: Family(text + "method m { } method m { } }"), Twice, name="method m")
        self.fails(lambda: Family(text + "init { of X; } }"), NotABase, owner="B", key="init", path=(0,))
        self.fails(lambda: Family(text.replace("init", "final init") + "init { } }"), Final, name="B", key="init")
        self.fails(lambda: Family(text.replace("init", "chained init") + "init { } }"), NotChained, name="B", key="init")
        self.fails(lambda: Family(text + "}"), NoClass, name="X")
