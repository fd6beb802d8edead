"""Point 9 and the methods of Family that answer it, and promises."""

from earlyfields.errors import BadKey, BadName, NoClass, TooMany
from earlyfields.families import Extension, Family
from tests.helpers import STRANGE, Case

# D has the order D, B, C, A; E stands alone.
TEXT = """
    shared s;
    class A { value a, s; method m { look a; } getter a { } setter a { keep a; } init { set a; } }
    class B(A) { value c; promise method m: b, a; final method n { super; } init { super; loop { set b; } } }
    class C(A) { value b, a; method m { super; } chained getter a { super; } promise init: c; }
    class D(B, C) { promise getter q: a; setter a { super; } }
    class E { value z; method n { call k; } }
"""


class MethodsTest(Case):
    def setUp(self):
        self.family = Family(TEXT)

    def test_the_attributes(self):
        self.assertEqual(self.family.classes, ("A", "B", "C", "D", "E"))
        self.assertEqual(self.family.names, ("a", "b", "c", "q", "s", "z"))
        self.assertEqual(self.family.methods, ("k", "m", "n"))
        self.assertEqual(self.family.shared, ("s",))

    def test_order_and_bases(self):
        self.assertEqual(self.family.order("D"), ("D", "B", "C", "A"))
        self.assertEqual(self.family.order("B"), ("B", "A"))
        self.assertEqual(self.family.bases("D"), ("B", "C"))
        self.assertEqual(self.family.bases("A"), ())
        self.assertEqual(Family("class A { } class B { } class C(B, A) { }").bases("C"), ("B", "A"))

    def test_birth(self):
        for name, names in (("A", ("a", "s")), ("B", ("a", "c", "s")), ("C", ("a", "b", "s")),
                            ("D", ("a", "b", "c", "s")), ("E", ("z",))):
            self.assertEqual(self.family.birth(name), names)
        self.assertEqual(Family("class A { init { keep a; } }").birth("A"), ())

    def test_class_values(self):
        for name, names in (("A", ("a", "s")), ("B", ("c",)), ("C", ("a", "b")), ("D", ()), ("E", ("z",))):
            self.assertEqual(self.family.class_values(name), names)

    def test_own_keys(self):
        for name, keys in (("A", ("getter a", "init", "method m", "setter a")), ("B", ("init", "method n")),
                           ("C", ("getter a", "method m")), ("D", ("setter a",)), ("E", ("method n",))):
            self.assertEqual(self.family.own_keys(name), keys)

    def test_grade_and_body(self):
        for name, key, grade, body in (
            ("A", "init", "open", (("set", "a"),)),
            ("A", "getter a", "open", ()),
            ("B", "method n", "final", (("super",),)),
            ("B", "init", "open", (("super",), ("loop", (("set", "b"),)))),
            ("C", "getter a", "chained", (("super",),)),
        ):
            self.assertEqual(self.family.grade(name, key), grade)
            self.assertEqual(self.family.body(name, key), body)

    def test_found(self):
        for name, key, owner in (
            ("D", "init", "B"), ("D", "method m", "C"), ("D", "method n", "B"), ("D", "getter a", "C"),
            ("D", "setter a", "D"), ("B", "method m", "A"), ("C", "setter a", "A"), ("C", "init", "A"), ("A", "init", "A"),
            ("E", "method n", "E"), ("E", "init", None), ("D", "method k", None), ("D", "getter q", None),
            ("A", "method n", None), ("D", "method never", None), ("D", "getter b", None),
        ):
            self.assertEqual(self.family.found(name, key), owner, (name, key))

    def test_after(self):
        for name, owner, key, next_one in (
            ("D", "D", "init", "B"), ("D", "B", "init", "A"), ("D", "C", "init", "A"), ("D", "A", "init", None),
            ("D", "B", "method m", "C"), ("D", "C", "method m", "A"), ("D", "D", "setter a", "A"), ("B", "B", "method m", "A"),
            ("D", "B", "method n", None), ("D", "D", "method n", "B"), ("E", "E", "method n", None),
            ("D", "D", "setter never", None), ("D", "D", "method k", None),
        ):
            self.assertEqual(self.family.after(name, owner, key), next_one, (name, owner, key))

    def test_promise(self):
        self.assertEqual(self.family.promise("B", "method m"), ("a", "b"))
        self.assertEqual(self.family.promise("C", "init"), ("c",))
        self.assertEqual(self.family.promise("D", "getter q"), ("a",))
        for name, key in (("B", "init"), ("D", "init"), ("D", "method m"), ("A", "method never"), ("E", "setter z")):
            self.assertEqual(self.family.promise(name, key), ())

    def test_all_keys(self):
        self.assertEqual(self.family.all_keys(), ["getter a", "init", "method k", "method m", "method n", "setter a"])
        self.assertEqual(Family("class A { promise getter a: b; promise method z: b; init { set c; call y; } }").all_keys(),
                         ["init", "method y", "method z"])
        self.assertEqual(Family("class A { method b { } setter b { } getter c { } }").all_keys(),
                         ["getter c", "init", "method b", "setter b"])

    def test_by_name(self):
        family = self.family
        self.assertEqual(family.order(name="E"), ("E",))
        self.assertEqual(family.bases(name="B"), ("A",))
        self.assertEqual(family.birth(name="E"), ("z",))
        self.assertEqual(family.class_values(name="B"), ("c",))
        self.assertEqual(family.own_keys(name="E"), ("method n",))
        self.assertEqual(family.grade(key="method n", name="B"), "final")
        self.assertEqual(family.body(key="method n", name="B"), (("super",),))
        self.assertEqual(family.found(key="init", name="D"), "B")
        self.assertEqual(family.after(key="init", owner="B", name="D"), "A")
        self.assertEqual(family.promise(key="init", name="C"), ("c",))
        self.assertEqual(family.promised(names=["z"], key="init", name="C").promise("C", "init"), ("c", "z"))
        self.assertEqual(family.extended(text="class H { }").heirs, ("H",))


class MethodErrorsTest(Case):
    def setUp(self):
        self.family = Family(TEXT)

    def test_no_class(self):
        family = self.family
        for value in STRANGE + ("X", "a", "m", "init", family, ("A", "B")):
            for call in (
                lambda: family.order(value), lambda: family.bases(value), lambda: family.birth(value),
                lambda: family.class_values(value), lambda: family.own_keys(value), lambda: family.grade(value, "init"),
                lambda: family.body(value, "init"), lambda: family.found(value, "init"),
                lambda: family.after(value, "A", "init"), lambda: family.promise(value, "init"),
                lambda: family.promised(value, "init", []),
                lambda: family.grade(value, 1), lambda: family.body(value, 1), lambda: family.found(value, 1),
                lambda: family.after(value, 1, 1), lambda: family.promise(value, 1), lambda: family.promised(value, 1, [1]),
            ):
                self.fails(call, NoClass, name=value)

    def test_no_own_member(self):
        for value in STRANGE + ("init a", "method n", "method never", "setter b", "getter q", ("method", "m")):
            for call in (self.family.grade, self.family.body):
                self.fails(lambda: call("A", value), BadKey, key=value)
        for call in (self.family.grade, self.family.body):
            self.fails(lambda: call("D", "init"), BadKey, key="init")
            self.fails(lambda: call("B", "method m"), BadKey, key="method m")

    def test_no_key(self):
        for value in STRANGE + ("a", "init a", "method  m", "method set", "call m", "Method m", ("init",)):
            self.fails(lambda: self.family.found("D", value), BadKey, key=value)
            self.fails(lambda: self.family.after("D", "D", value), BadKey, key=value)
            self.fails(lambda: self.family.after("D", "A", value), BadKey, key=value)
            self.fails(lambda: self.family.promise("D", value), BadKey, key=value)
            self.fails(lambda: self.family.promised("D", value, []), BadKey, key=value)

    def test_no_owner_in_the_order(self):
        for value in STRANGE + ("E", "X", "D", "C", "a", ("B",)):
            self.fails(lambda: self.family.after("B", value, "init"), NoClass, name=value)
            self.fails(lambda: self.family.after("B", value, "no key"), NoClass, name=value)


class PromisedTest(Case):
    def setUp(self):
        self.family = Family(TEXT)

    def test_names_are_promised_too(self):
        family = self.family.promised("B", "method m", ["z", "a"])
        self.assertEqual(family.promise("B", "method m"), ("a", "b", "z"))
        self.assertEqual(family.promise("C", "init"), ("c",))
        self.assertEqual(family.promised("C", "init", ["b"]).promise("C", "init"), ("b", "c"))
        self.assertEqual(str(family), str(self.family).replace("method m: a, b;", "method m: a, b, z;"))

    def test_each_kind_of_key(self):
        for key in ("init", "method m", "method x", "getter a", "getter x", "setter b", "setter x"):
            family = self.family.promised("D", key, ["s"])
            self.assertEqual(family.promise("D", key), ("s",))
            self.assertEqual("x" in family.methods, key == "method x")
            self.assertEqual("x" in family.names, key in ("getter x", "setter x"))
            self.assertEqual("method x" in family.all_keys(), key == "method x")
            self.assertEqual(family.classes, self.family.classes)

    def test_no_names_change_nothing(self):
        for key in ("init", "method m", "method x", "getter x"):
            family = self.family.promised("B", key, [])
            self.assertIs(family.__class__, Family)
            self.assertIsNot(family, self.family)
            self.assertEqual(family, self.family)
            self.assertEqual([family.names, family.methods], [self.family.names, self.family.methods])

    def test_names_that_are_promised_already(self):
        self.assertEqual(self.family.promised("B", "method m", ["a", "b", "a"]), self.family)

    def test_the_family_and_the_list_stay_as_they_were(self):
        text = str(self.family)
        names = ["z", "y", "z"]
        family = self.family.promised("A", "init", names)
        names.append("x")
        self.assertEqual(str(self.family), text)
        self.assertEqual(self.family.promise("A", "init"), ())
        self.assertEqual(self.family.names, ("a", "b", "c", "q", "s", "z"))
        self.assertEqual(family.promise("A", "init"), ("y", "z"))
        self.assertEqual(names, ["z", "y", "z", "x"])

    def test_an_empty_class_and_a_class_among_others(self):
        family = Family("shared a; class Aa { } class A { value b; } class B(A, Aa) { }")
        self.assertEqual(str(family.promised("Aa", "init", ["a"])),
                         "shared a;\nclass Aa { promise init: a; }\nclass A { value b; }\nclass B(A, Aa) { }")
        self.assertEqual(str(family.promised("B", "method m", ["c", "b"])),
                         "shared a;\nclass Aa { }\nclass A { value b; }\nclass B(A, Aa) { promise method m: b, c; }")

    def test_an_entry_that_is_no_word(self):
        for value in STRANGE + ("A", "init", "set", "abcdefghi", ("a",), ["a"]):
            self.fails(lambda: self.family.promised("A", "init", [value]), BadName, name=value)
            self.fails(lambda: self.family.promised("A", "init", ["a", "new", value, "B"]), BadName, name=value)

    def test_one_name_too_many(self):
        family = Family("shared a, b, c, d, e, f, g, h; class A { }")
        self.assertEqual(len(family.promised("A", "init", ["i", "j"]).names), 10)
        self.assertEqual(len(family.promised("A", "method k", ["i", "j"]).names), 10)
        self.assertEqual(len(family.promised("A", "getter i", ["j"]).names), 10)
        self.fails(lambda: family.promised("A", "init", ["i", "j", "k"]), TooMany, what="names")
        self.fails(lambda: family.promised("A", "getter i", ["j", "k"]), TooMany, what="names")
        self.fails(lambda: family.promised("A", "setter k", ["i", "j"]), TooMany, what="names")
        self.assertEqual(str(family), "shared a, b, c, d, e, f, g, h;\nclass A { }")

    def test_the_first_error_comes_first(self):
        many = list("abcdefghijk")
        self.fails(lambda: self.family.promised("X", "key", [1]), NoClass, name="X")
        self.fails(lambda: self.family.promised("A", "key", [1]), BadKey, key="key")
        self.fails(lambda: self.family.promised("A", "init", many + ["B", 1]), BadName, name="B")
        self.fails(lambda: self.family.promised("A", "init", many), TooMany, what="names")

    def test_of_an_extension_comes_a_family(self):
        wide = Family("class A { }").extended("class H(A) { init { super; } }")
        for names in ([], ["a"]):
            for name in ("A", "H"):
                family = wide.promised(name, "init", names)
                self.assertIs(family.__class__, Family)
                self.assertNotIsInstance(family, Extension)
                self.assertEqual(family.promise(name, "init"), tuple(names))
                self.assertEqual(family.classes, ("A", "H"))


class NewResultsTest(Case):
    def test_a_list_that_is_returned_may_be_changed(self):
        family = Family(TEXT)
        keys = family.all_keys()
        keys.append("x")
        del keys[0]
        self.assertEqual(family.all_keys(), ["getter a", "init", "method k", "method m", "method n", "setter a"])
        self.assertIsNot(family.all_keys(), family.all_keys())

    def test_equal_calls_return_equal_results(self):
        one, two = Family(TEXT), Family(TEXT)
        for name in one.classes:
            self.assertEqual(one.order(name), two.order(name))
            self.assertEqual(one.birth(name), one.birth(name))
        self.assertEqual(str(one), str(two))

    def test_the_kinds_of_what_is_returned(self):
        family = Family(TEXT)
        for value in (family.order("D"), family.bases("D"), family.birth("D"), family.class_values("D"), family.own_keys("D"),
                      family.body("A", "init"), family.promise("D", "init"), family.promise("B", "method m"),
                      family.classes, family.names, family.methods, family.shared):
            self.assertIs(value.__class__, tuple)
        self.assertIs(family.all_keys().__class__, list)

    def test_a_call_that_fails_changes_nothing(self):
        family = Family(TEXT)
        text = str(family)
        for call in (lambda: family.promised("A", "init", ["a", 1]), lambda: family.order([]),
                     lambda: family.promised("A", "init", list("abcdefghijk")), lambda: family.found("A", [])):
            with self.assertRaises(ValueError):
                call()
        self.assertEqual(str(family), text)
        self.assertEqual(family.promise("A", "init"), ())

    def test_a_changed_attribute_changes_no_other_object(self):
        family = Family(TEXT)
        wide = family.extended("class H(A) { }")
        family.classes = ()
        family.names = ("x",)
        self.assertEqual(wide.family.classes, ("A", "B", "C", "D", "E"))
        self.assertEqual(wide.classes, ("A", "B", "C", "D", "E", "H"))
        self.assertEqual(Family(TEXT).classes, ("A", "B", "C", "D", "E"))
