"""Points 16 and 17: extensions, which heirs are lawful, and the orders without heirs."""

from earlyfields.errors import BadText, Final, NoClass, NoOrder, NotABase, NotChained, NotLawful, TooMany, Twice
from earlyfields.families import Extension, Family
from tests.helpers import STRANGE, Case

OLD = "class A { init { super; set a; } method m { look a; } }"


class ExtensionTest(Case):
    def setUp(self):
        self.family = Family(OLD)

    def test_old_classes_and_heirs(self):
        wide = self.family.extended("class H { init { super; call m; } } class J(A, H) { }")
        self.assertIs(wide.__class__, Extension)
        self.assertIsInstance(wide, Family)
        self.assertEqual(wide.classes, ("A", "H", "J"))
        self.assertEqual(wide.heirs, ("H", "J"))
        self.assertEqual(wide.order("J"), ("J", "A", "H"))
        self.assertEqual(wide.family, self.family)
        self.assertIs(wide.family.__class__, Family)
        self.assertEqual(str(wide), str(self.family) + "\n" + wide.heir_text())
        self.assertEqual(wide.heir_text(), "class H { init { super; call m; } }\nclass J(A, H) { }")

    def test_the_names_and_methods_of_the_whole(self):
        wide = self.family.extended("class H(A) { value z; method n { set b; if c { call k; } else { } } }")
        self.assertEqual(wide.names, ("a", "b", "c", "z"))
        self.assertEqual(wide.methods, ("k", "m", "n"))
        self.assertEqual(wide.family.names, ("a",))
        self.assertEqual(wide.birth("H"), ("z",))
        self.assertEqual(wide.found("H", "init"), "A")
        self.assertEqual(wide.all_keys(), ["init", "method k", "method m", "method n"])

    def test_no_heirs(self):
        for text in ("", " \n"):
            wide = self.family.extended(text)
            self.assertEqual([wide.heirs, wide.heir_text(), wide.classes], [(), "", ("A",)])
            self.assertEqual(wide, self.family)

    def test_the_family_without_classes(self):
        wide = Family("").extended("class H { value a; init { super; set a; } } class J(H) { method m { super; } }")
        self.assertEqual(wide.classes, ("H", "J"))
        self.assertEqual(wide.heirs, ("H", "J"))
        self.assertEqual(wide.family, Family(""))
        self.assertEqual(wide.old_order("J"), ())
        self.assertEqual(str(wide), wide.heir_text())
        self.assertEqual(Family("").extended("").heirs, ())

    def test_shared_names_of_the_old_family(self):
        wide = Family("shared s; class A { }").extended("class H(A) { }")
        self.assertEqual(wide.shared, ("s",))
        self.assertEqual(str(wide), "shared s;\nclass A { }\nclass H(A) { }")
        self.assertEqual(wide.heir_text(), "class H(A) { }")

    def test_old_order(self):
        family = Family("class A { } class B(A) { } class C(A) { }")
        wide = family.extended("class H { } class J(H, B) { } class K(J, C) { } class L(C, J, H) { } class M(H) { }")
        for name, order in (("A", ("A",)), ("B", ("B", "A")), ("H", ()), ("J", ("B", "A")), ("K", ("B", "C", "A")),
                            ("L", ("C", "B", "A")), ("M", ())):
            self.assertEqual(wide.old_order(name), order, name)
        for value in STRANGE + ("X", "a", ("A",)):
            self.fails(lambda: wide.old_order(value), NoClass, name=value)

    def test_by_name(self):
        wide = Extension(family=self.family, text="class H { }")
        self.assertEqual(wide, Extension(self.family, "class H { }"))
        self.assertEqual(wide.old_order(name="A"), ("A",))

    def test_the_family_stays_as_it_was(self):
        self.family.extended("class H(A) { value b; method n { } }")
        self.assertEqual(str(self.family), str(Family(OLD)))
        self.assertEqual(self.family.classes, ("A",))
        self.assertEqual(self.family.names, ("a",))
        self.assertFalse("H" in self.family)

    def test_heirs_in_canonical_lines(self):
        wide = self.family.extended("class H(A){method z{}value y,x;init{super;}}class J{}")
        self.assertEqual(wide.heir_text(), "class H(A) { value x, y; init { super; } method z { } }\nclass J { }")
        self.assertTrue("H" in wide)
        self.assertEqual(len(wide), 3)

    def test_an_own_family_for_each_extension(self):
        one, two = self.family.extended("class H { }"), self.family.extended("class H { }")
        self.assertIsNot(one.family, two.family)
        self.assertIsNot(one.family, self.family)
        one.family.classes = ()
        self.assertEqual(two.family.classes, ("A",))
        self.assertEqual(self.family.classes, ("A",))


class SecondExtensionTest(Case):
    def setUp(self):
        self.family = Family(OLD)
        self.first = self.family.extended("class H { method n { set z; } value y; }")

    def test_the_heirs_of_both(self):
        for second in (self.first.extended("class J(H, A) { value z; }"), Extension(self.first, "class J(H, A) { value z; }")):
            self.assertIs(second.__class__, Extension)
            self.assertEqual(second.classes, ("A", "H", "J"))
            self.assertEqual(second.heirs, ("H", "J"))
            self.assertEqual(second.family, self.family)
            self.assertIs(second.family.__class__, Family)
            self.assertEqual(second.old_order("J"), ("A",))
            self.assertEqual(second.old_order("H"), ())
            self.assertEqual(second.heir_text(), "class H { value y; method n { set z; } }\nclass J(H, A) { value z; }")
            self.assertEqual(second, Family(OLD).extended("class H{value y;method n{set z;}} class J(H,A){value z;}"))
        self.assertEqual(self.first.heirs, ("H",))

    def test_heirs_of_the_first_one_are_no_old_classes(self):
        text = "class H(A) { method n { } } class J(H) { getter a { } }"
        first = Family("class A { getter b { } }").extended("class H(A) { getter b { } }")
        self.fails(lambda: first.extended("class J(H) { getter a { } }"), NotLawful, owner="J", key="getter a", path=())
        self.assertEqual(first.extended("class J(H) { getter b { } }").heirs, ("H", "J"))
        self.fails(lambda: Family(OLD).extended(text), NotLawful, owner="J", key="getter a", path=())

    def test_names_of_the_first_heirs_are_no_old_names(self):
        self.assertEqual(self.first.extended("class J { value y, z; }").heirs, ("H", "J"))
        self.fails(lambda: self.first.extended("class J { value a; }"), NotLawful, owner="J", key="value", path=())

    def test_a_third_one(self):
        third = self.first.extended("class J { }").extended("").extended("class K(J) { }")
        self.assertEqual(third.heirs, ("H", "J", "K"))
        self.assertEqual(third.family, self.family)

    def test_the_whole_must_be_sound(self):
        self.fails(lambda: self.first.extended("class H { }"), Twice, name="H")
        self.fails(lambda: self.first.extended("class J(K) { }"), NoClass, name="K")

    def test_a_family_with_the_same_text_has_old_classes_only(self):
        wide = Family(str(self.first)).extended("class J(H) { }")
        self.assertEqual(wide.heirs, ("J",))
        self.assertEqual(wide.old_order("J"), ("H",))
        self.fails(lambda: Family(str(self.first)).extended("class J { value y; }"), NotLawful, owner="J", key="value", path=())


class ExtensionTextTest(Case):
    def stops(self, text, at):
        for family in (Family(""), Family("shared a; class A { init { } }"), Family(OLD).extended("class G { }")):
            self.fails(lambda: family.extended(text), BadText, at=at)
            self.fails(lambda: Extension(family, text), BadText, at=at)

    def test_no_string(self):
        for value in STRANGE + (b"class H { }", Family("")):
            if not isinstance(value, str):
                self.stops(value, -1)

    def test_shared_does_not_fit(self):
        self.stops("shared a;", 0)
        self.stops("class H { } shared a;", 12)
        self.stops("class H { }\n\n shared a; class J { }", 14)
        self.stops("class H { shared a; }", 10)

    def test_positions_in_the_text_of_the_heirs(self):
        for text, at in (("?", 0), ("class h { }", 6), ("class H { } }", 12), ("class H", 7), ("class H { \n", 11),
                         ("class H { init { super } }", 23), ("class H { value a }", 18)):
            self.stops(text, at)

    def test_the_text_comes_ahead_of_all_else(self):
        self.stops("class A { value a; } " * 60 + "shared a;", 21 * 60)


class BoundsTest(Case):
    def test_classes(self):
        letters = "abcdefghij"
        text = " ".join(["class C" + letters[k // 10] + letters[k % 10] + " { }" for k in range(49)])
        self.assertEqual(len(Family(text).extended("class H { }")), 50)
        self.fails(lambda: Family(text).extended("class H { } class J { }"), TooMany, what="classes")
        self.fails(lambda: Family(text).extended("class H { }").extended("class J { }"), TooMany, what="classes")

    def test_names(self):
        family = Family("shared a, b, c, d, e, f, g, h, i; class A { }")
        self.assertEqual(len(family.extended("class H { method m { set j; } }").names), 10)
        self.fails(lambda: family.extended("class H { method m { set j; set k; } }"), TooMany, what="names")
        self.fails(lambda: family.extended("class H { value a, j, k; }"), TooMany, what="names")

    def test_steps(self):
        family = Family("class A { init { " + "fail; " * 990 + "} }")
        self.assertEqual(len(family.extended("class H { method m { " + "fail; " * 10 + "} }")), 2)
        self.fails(lambda: family.extended("class H { method m { " + "make X; " * 11 + "} }"), TooMany, what="steps")


class SoundnessTest(Case):
    """What is not sound comes ahead of what is not lawful."""

    def fails_first(self, text, error, **fields):
        family = Family("class A { final method f { } chained method c { } value a; } class B(A) { }")
        bad = "class Z { value a; promise init: a; init { make A; } }"
        self.fails(lambda: family.extended(text), error, **fields)
        self.fails(lambda: family.extended(bad + text), error, **fields)
        self.fails(lambda: family.extended(bad).extended(text), NotLawful, owner="Z", key="value", path=())

    def test_each_error(self):
        self.fails_first("class A { }", Twice, name="A")
        self.fails_first("class H { } class H { }", Twice, name="H")
        self.fails_first("class H(A, A) { }", Twice, name="A")
        self.fails_first("class H { init { } init { } }", Twice, name="init")
        self.fails_first("class H(X) { }", NoClass, name="X")
        self.fails_first("class H(J) { } class J { }", NoClass, name="J")
        self.fails_first("class H(A, B) { }", NoOrder, name="H")
        self.fails_first("class H { init { of A; } }", NotABase, owner="H", key="init", path=(0,))
        self.fails_first("class H(B) { method f { } }", Final, name="H", key="method f")
        self.fails_first("class H { method f { } } class J(H, A) { }", Final, name="J", key="method f")
        self.fails_first("class H(B) { method c { } }", NotChained, name="H", key="method c")
        self.fails_first("class H { method c { } } class J(H, B) { }", NotChained, name="J", key="method c")
        self.fails_first("class H { method x { make X; } }", NoClass, name="X")

    def test_grades_among_heirs(self):
        self.fails_first("class H { final init { super; } } class J(H) { init { super; } }", Final, name="J", key="init")
        self.fails_first("class H { chained method x { } } class J(H) { method x { } }", NotChained, name="J", key="method x")


class LawfulTest(Case):
    """Each way in which an heir is not lawful."""

    OLD = """
        shared s;
        class A { value v; promise init: a; promise method m: b, s; promise getter g: c; getter g { } init { set a; } }
        class B { setter t { look d; } promise method m: d; promise init: d; }
        class C(A) { promise method n: a; final getter k { } }
    """

    def setUp(self):
        self.family = Family(self.OLD)

    def lawful(self, text):
        self.assertEqual(self.family.extended(text).family, self.family)

    def unlawful(self, text, owner, key, path):
        self.fails(lambda: self.family.extended(text), NotLawful, owner=owner, key=key, path=path)
        self.fails(lambda: self.family.extended("class Q { }").extended(text), NotLawful, owner=owner, key=key, path=path)
        self.fails(lambda: Extension(self.family, "class Q(A) { } " + text + " class R { value a; }"),
                   NotLawful, owner=owner, key=key, path=path)

    def test_class_values(self):
        self.lawful("class H(A) { value w; } class J { value w; }")
        for name in ("v", "s", "a", "b", "c", "d", "g", "t", "k"):
            self.unlawful("class H { value z; value " + name + "; }", "H", "value", ())
        self.lawful("class H { value m; }")

    def test_promises(self):
        for text in ("promise init: a;", "promise method m: z;", "promise getter g: c;"):
            self.unlawful("class H(A) { " + text + " }", "H", "promise", ())

    def test_getters_and_setters(self):
        self.lawful("class H(A) { getter g { } } class J(B) { setter t { } } class K(H) { getter g { } }")
        self.lawful("class H(A) { getter g { call m; } } class J(B, H) { getter g { } setter t { } }")
        self.unlawful("class H { getter g { } }", "H", "getter g", ())
        self.unlawful("class H(B) { getter g { } }", "H", "getter g", ())
        self.unlawful("class H(A) { setter g { } }", "H", "setter g", ())
        self.unlawful("class H(A) { setter t { } }", "H", "setter t", ())
        self.unlawful("class H(B) { getter t { } }", "H", "getter t", ())
        self.unlawful("class H(A) { getter x { } }", "H", "getter x", ())
        self.unlawful("class H(A) { getter v { } }", "H", "getter v", ())
        self.unlawful("class H(A) { getter g { } } class J { getter g { } } class K(J, H) { }", "J", "getter g", ())

    def test_a_promise_for_a_getter_is_no_getter(self):
        family = Family("class A { promise getter a: b; }")
        self.fails(lambda: family.extended("class H(A) { getter a { } }"), NotLawful, owner="H", key="getter a", path=())

    def test_init_begins_with_super(self):
        self.lawful("class H(A) { init { super; } } class J { init { super; fail; super; } } class K { }")
        for body in ("", "fail;", "fail; super;", "try { super; } catch { }", "loop { super; }", "call m; super;",
                     "make A; super;"):
            self.unlawful("class H(A) { init { " + body + " } }", "H", "init", ())
            self.unlawful("class H { init { " + body + " } }", "H", "init", ())
        self.lawful("class H { method m { } method n { fail; super; } }")

    def test_the_steps_of_heirs(self):
        self.lawful("class H { method m { super; call x; call m; set a; set z; fail; try { super; } catch { fail; } "
                    "if a { } else { } if z { loop { set s; } } else { } either { } or { } or { call n; } } }")
        for step in ("keep a;", "look a;", "make A;", "keep z;", "look z;", "keep s;"):
            self.unlawful("class H { method m { " + step + " } }", "H", "method m", (0,))
            self.unlawful("class H(A) { method m { super; if a { } else { loop { fail; " + step + " } } } }",
                          "H", "method m", (1, 1, 0, 0, 1))
            self.unlawful("class H { init { super; " + step + " } }", "H", "init", (1,))
        self.unlawful("class H(A) { init { super; of A; } }", "H", "init", (1,))
        self.unlawful("class H(A) { getter g { either { } or { of A; } } }", "H", "getter g", (0, 1, 0))

    def test_reads(self):
        self.lawful("class H(A) { init { super; read a; } method m { read b; loop { read s; } } getter g { read c; } }")
        self.lawful("class H(C) { init { super; read a; } method m { read b; } method n { read a; } getter g { read c; } }")
        self.lawful("class H(B, A) { method m { read d; read b; read s; } init { super; read a; read d; } }")
        self.lawful("class H(A) { } class J(H, B) { method m { read b; read d; } }")
        for text, path in (
            ("class H { method m { read b; } }", (0,)),
            ("class H(A) { method m { read b; read d; } }", (1,)),
            ("class H(A) { method m { read a; } }", (0,)),
            ("class H(B) { method m { fail; try { read d; } catch { read b; } } }", (1, 1, 0)),
            ("class H(A) { method m { read z; } }", (0,)),
            ("class H { value z; method m { read z; } }", (0,)),
            ("class H(C) { method m { read v; } }", (0,)),
        ):
            self.unlawful(text, "H", "method m", path)
        self.unlawful("class H(A) { method n { read a; } }", "H", "method n", (0,))
        self.unlawful("class H(A) { getter g { read a; } }", "H", "getter g", (0,))
        self.unlawful("class H(A) { init { super; read c; } }", "H", "init", (1,))

    def test_the_old_classes_are_free(self):
        family = Family("class A { promise init: a; init { keep a; look a; make A; read z; } setter q { } value a; }")
        self.assertEqual(family.extended("class H { }").heirs, ("H",))

    def test_members_of_heirs_may_be_chained_or_final(self):
        self.lawful("class H(A) { final init { super; } chained getter g { } } class J(H) { getter g { super; } }")

    def test_several_in_one_heir(self):
        text = "class H(B) { value a; promise init: a; getter g { keep a; } init { look a; } method m { make A; loop { keep a; } } }"
        for key, path, gone in (
            ("value", (), "value a;"),
            ("promise", (), "promise init: a;"),
            ("getter g", (), "getter g { keep a; }"),
            ("init", (), "look a;"),
            ("init", (), "init { }"),
            ("method m", (0,), "make A;"),
            ("method m", (0, 0, 0), "keep a;"),
        ):
            self.unlawful(text, "H", key, path)
            self.assertIn(gone, text)
            text = text.replace(gone, "")
            text = text.replace("init {  }", "init { }")
        self.lawful(text)

    def test_the_key_ahead_of_its_steps_and_a_key_ahead_of_another(self):
        self.unlawful("class H { setter x { keep a; } method z { keep a; } }", "H", "method z", (0,))
        self.unlawful("class H { setter x { keep a; } }", "H", "setter x", ())
        self.unlawful("class H { init { keep a; } }", "H", "init", ())
        self.unlawful("class H(A) { init { } getter g { keep a; } }", "H", "getter g", (0,))
        self.unlawful("class H { method b { fail; keep a; } method a { fail; fail; look a; } }", "H", "method a", (2,))

    def test_the_first_heir_comes_first(self):
        self.unlawful("class H { method m { keep a; } } class J { value a; }", "H", "method m", (0,))
        self.unlawful("class H { } class J { promise init: a; } class K { value a; }", "J", "promise", ())

    def test_the_example(self):
        family = Family(OLD)
        self.fails(lambda: family.extended("class H { init { call m; } }"), NotLawful, owner="H", key="init", path=())
