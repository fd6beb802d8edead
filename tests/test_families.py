"""How families are written: points 4 to 6, and the class Family but for its methods."""

import inspect

from earlyfields.errors import BadText, NoClass, TooMany, Twice
from earlyfields.families import Extension, Family
from tests.helpers import STRANGE, Case


class ReadingTest(Case):
    def test_the_empty_family(self):
        for text in ("", " \n", "\n\n"):
            family = Family(text)
            self.assertEqual(family.classes, ())
            self.assertEqual(family.names, ())
            self.assertEqual(family.methods, ())
            self.assertEqual(family.shared, ())
            self.assertEqual(family.all_keys(), ["init"])
            self.assertEqual(len(family), 0)
            self.assertEqual(str(family), "")

    def test_parts_in_any_order(self):
        family = Family("class B { method m { } value c; init { } value a; promise init: z; } shared s; class A(B) { }")
        self.assertEqual(family.classes, ("B", "A"))
        self.assertEqual(family.shared, ("s",))
        self.assertEqual(family.class_values("B"), ("a", "c"))
        self.assertEqual(family.own_keys("B"), ("init", "method m"))
        self.assertEqual(family.promise("B", "init"), ("z",))

    def test_what_stands_twice_counts_once(self):
        family = Family("shared b, a, b; class A { value d, c, d; promise init: a, a; } shared a; shared b;"
                        "class B { value c; value c; promise init: b, a; promise init: b; promise method m: a; }")
        self.assertEqual(family.shared, ("a", "b"))
        self.assertEqual(family.names, ("a", "b", "c", "d"))
        self.assertEqual(family.class_values("A"), ("c", "d"))
        self.assertEqual(family.class_values("B"), ("c",))
        self.assertEqual(family.promise("A", "init"), ("a",))
        self.assertEqual(family.promise("B", "init"), ("a", "b"))
        self.assertEqual(family.methods, ("m",))

    def test_where_names_stand(self):
        for text, names in (
            ("shared a;", ("a",)),
            ("class A { value a; }", ("a",)),
            ("class A { promise init: a; }", ("a",)),
            ("class A { promise method m: b, a; }", ("a", "b")),
            ("class A { promise getter a: b; }", ("a", "b")),
            ("class A { promise setter a: b; }", ("a", "b")),
            ("class A { getter a { } }", ("a",)),
            ("class A { setter a { } }", ("a",)),
            ("class A { init { set a; keep b; read c; look d; if e { } else { } } }", ("a", "b", "c", "d", "e")),
            ("class A { method m { loop { set a; } } }", ("a",)),
            ("class A { getter a { try { look b; } catch { keep c; } } }", ("a", "b", "c")),
            ("class A { init { either { } or { } or { if b { read c; } else { set a; } } } }", ("a", "b", "c")),
            ("class A { init { call m; super; fail; } method n { } promise method k: a; }", ("a",)),
        ):
            self.assertEqual(Family(text).names, names, text)

    def test_where_methods_stand(self):
        for text, methods in (
            ("class A { method m { } }", ("m",)),
            ("class A { promise method m: a; }", ("m",)),
            ("class A { init { call m; } }", ("m",)),
            ("class A { init { loop { try { } catch { either { } or { call m; } } } } }", ("m",)),
            ("class A { method n { call m; call k; call m; } promise method a: b; }", ("a", "k", "m", "n")),
            ("shared a; class A { value b; getter c { } setter d { } init { set e; } promise init: f; }", ()),
        ):
            self.assertEqual(Family(text).methods, methods, text)

    def test_a_name_and_a_method_may_be_the_same_word(self):
        family = Family("class A { method a { set a; } }")
        self.assertEqual([family.names, family.methods], [("a",), ("a",)])

    def test_class_names(self):
        family = Family("class A { } class Abcdefgh { } class Init(A, Abcdefgh) { } class Aa { } class Of { }")
        self.assertEqual(family.classes, ("A", "Abcdefgh", "Init", "Aa", "Of"))

    def test_no_blanks_and_many(self):
        tight = Family("shared s,t;class A{}class B(A){value a,b;promise method m:a;chained init{super;}}")
        wide = Family("""
            shared  s ,
            t ; class A { } class B
            ( A ) { value a , b ; promise
            method
            m : a ; chained  init { super ; } }
        """)
        self.assertEqual(tight, wide)
        self.assertEqual(str(tight), str(wide))

    def test_by_name(self):
        self.assertEqual(Family(text="class A { }").classes, ("A",))


class CanonicalTest(Case):
    def test_the_example(self):
        self.assertEqual(
            str(Family("class A{final method m{look a;}promise init:b,a;value c;}")),
            "class A { value c; promise init: a, b; final method m { look a; } }")

    def test_lines(self):
        family = Family("class B { } shared b; class A(B) { } shared a;")
        self.assertEqual(str(family), "shared a, b;\nclass B { }\nclass A(B) { }")

    def test_the_order_of_parts(self):
        family = Family("class A { setter b { } chained init { } method a { } getter c { } promise setter a: y, x; "
                        "value q; promise init: x; promise getter z: y; promise init: w; value p; promise method m: x; "
                        "final getter a { } method aa { } }")
        self.assertEqual(str(family), "class A { value p, q; promise getter z: y; promise init: w, x; "
                                      "promise method m: x; promise setter a: x, y; final getter a { } "
                                      "getter c { } chained init { } method a { } method aa { } setter b { } }")

    def test_bases_stay_as_written(self):
        text = "class B { } class A { } class D(A,B) { } class C(B, A) { }"
        self.assertEqual(str(Family(text)), "class B { }\nclass A { }\nclass D(A, B) { }\nclass C(B, A) { }")

    def test_bodies(self):
        family = Family("class A{init{if a{}else{loop{set b;fail;}}make A;}method m{}}")
        self.assertEqual(str(family), "class A { init { if a { } else { loop { set b; fail; } } make A; } method m { } }")

    def test_read_again(self):
        for text in ("", "shared z,y;", "class A{}", "class A{value a;final init{}}class B(A){method m{make A;of A;}}",
                     "shared s;class A{promise getter a:b;chained getter a{either{super;}or{}}}"):
            family = Family(text)
            again = Family(str(family))
            self.assertEqual(str(again), str(family))
            self.assertEqual(again, family)
            self.assertEqual([again.classes, again.names, again.methods, again.shared],
                             [family.classes, family.names, family.methods, family.shared])


class EqualityTest(Case):
    def test_equal_texts(self):
        self.assertTrue(Family("class A { value b, a; }") == Family("class A{value a;value b;}"))
        self.assertFalse(Family("class A { value b, a; }") != Family("class A{value a;value b;}"))
        self.assertTrue(Family("") == Family("\n"))

    def test_other_texts(self):
        family = Family("class A { method m { set a; } } class B { }")
        for text in ("", "class A { }", "class B { } class A { method m { set a; } }",
                     "class A { final method m { set a; } } class B { }", "class A { method m { keep a; } } class B { }",
                     "shared a; class A { method m { set a; } } class B { }",
                     "class A { value a; method m { set a; } } class B { }",
                     "class A { promise init: a; method m { set a; } } class B { }",
                     "class A { method m { set a; } } class B(A) { }"):
            self.assertFalse(family == Family(text), text)
            self.assertTrue(family != Family(text), text)

    def test_other_values(self):
        family = Family("class A { }")
        for value in STRANGE + ("class A { }", ("A",), family.classes, Case):
            self.assertFalse(family == value)
            self.assertFalse(value == family)
            self.assertTrue(family != value)

    def test_an_extension_is_compared_in_the_same_way(self):
        wide = Family("class A { }").extended("class H(A) { }")
        self.assertTrue(wide == Family("class A { } class H(A) { }"))
        self.assertTrue(Family("class A { } class H(A) { }") == wide)
        self.assertTrue(wide == Extension(Family(""), "class A{}class H(A){}"))
        self.assertFalse(wide == Family("class A { }"))
        self.assertFalse(wide == "class A { }\nclass H(A) { }")


class SmallMethodsTest(Case):
    def test_len(self):
        for many in (0, 1, 2, 5):
            text = " ".join(["class " + name + " { }" for name in ("A", "B", "C", "D", "E")[:many]])
            self.assertEqual(len(Family(text)), many)

    def test_in(self):
        family = Family("shared a; class A { method m { } } class Ab(A) { }")
        self.assertIs("A" in family, True)
        self.assertIs("Ab" in family, True)
        for value in STRANGE + ("B", "a", "m", "Abc", "init", b"A", family):
            self.assertIs(value in family, False, value)

    def test_of(self):
        self.assertEqual(Family.of(), Family(""))
        self.assertEqual(Family.of("class A { }"), Family("class A { }"))
        self.assertEqual(Family.of("class A { }", "shared s;", "class B(A) { }"),
                         Family("class A { } shared s; class B(A) { }"))
        self.assertEqual(Family.of("class A", "{ value", "a; }"), Family("class A { value a; }"))

    def test_of_puts_line_feeds_between(self):
        self.fails(lambda: Family.of("cla", "ss A { }"), BadText, at=0)
        self.fails(lambda: Family.of("class A { }", "", "?"), BadText, at=13)
        self.fails(lambda: Family.of("class A {", ""), BadText, at=10)
        self.fails(lambda: Family.of("class A { }", "class A { }"), Twice, name="A")

    def test_of_is_a_class_method_that_gives_a_family(self):
        for family in (Family.of("class A { }"), Family("").of("class A { }"), Extension.of("class A { }")):
            self.assertIs(family.__class__, Family)
            self.assertEqual(str(family), "class A { }")

    def test_class_attributes(self):
        self.assertEqual([Family.MOST_CLASSES, Family.MOST_NAMES, Family.MOST_STEPS], [50, 10, 1000])

    def test_the_methods_stand_in_their_classes(self):
        for word in ("of", "order", "bases", "birth", "class_values", "own_keys", "grade", "body", "found", "after",
                     "promise", "all_keys", "promised", "__len__", "__contains__", "__str__", "__eq__", "extended"):
            self.assertIn(word, vars(Family))
        for word in ("old_order", "heir_text"):
            self.assertIn(word, vars(Extension))
        self.assertEqual(Extension.__bases__, (Family,))

    def test_parameters_have_the_names_that_the_interface_shows(self):
        for owner, word, names in (
            (Family, "__init__", ["text"]), (Family, "order", ["name"]), (Family, "bases", ["name"]),
            (Family, "birth", ["name"]), (Family, "class_values", ["name"]), (Family, "own_keys", ["name"]),
            (Family, "grade", ["name", "key"]), (Family, "body", ["name", "key"]), (Family, "found", ["name", "key"]),
            (Family, "after", ["name", "owner", "key"]), (Family, "promise", ["name", "key"]),
            (Family, "all_keys", []), (Family, "promised", ["name", "key", "names"]), (Family, "extended", ["text"]),
            (Extension, "__init__", ["family", "text"]), (Extension, "old_order", ["name"]), (Extension, "heir_text", []),
        ):
            self.assertEqual(list(inspect.signature(vars(owner)[word]).parameters), ["self"] + names, word)


class BadTextTest(Case):
    def stops(self, text, at):
        self.fails(lambda: Family(text), BadText, at=at)

    def test_no_string(self):
        for value in STRANGE:
            if not isinstance(value, str):
                self.stops(value, -1)
        self.stops(b"class A { }", -1)

    def test_a_token_that_does_not_fit(self):
        for text, at in (
            ("a", 0), ("A", 0), ("value a;", 0), ("init { }", 0), ("method m { }", 0), (";", 0), ("}", 0), ("Class A { }", 0),
            ("class a { }", 6), ("class AB { }", 6), ("class aB { }", 6), ("class Abcdefghi { }", 6), ("class { }", 6),
            ("class class { }", 6), ("classA { }", 0), ("class A B { }", 8), ("class A : B { }", 8), ("class A ; { }", 8),
            ("class A() { }", 8), ("class A(b) { }", 8), ("class A(B,) { }", 10), ("class A(,B) { }", 8),
            ("class A(B C) { }", 10), ("class A(B; C) { }", 9), ("class A(B { }", 10), ("class A { } }", 12),
            ("class A { } ;", 12), ("class A { class B { } }", 10), ("class A { shared a; }", 10), ("class A { a; }", 10),
            ("class A { { } }", 10), ("class A { set a; }", 10), ("class A { ; }", 10), ("class A { open init { } }", 10),
            ("shared; class A { }", 6), ("shared A;", 7), ("shared a b;", 9), ("shared a,;", 9), ("shared ,a;", 7),
            ("shared a: b;", 8), ("shared set;", 7), ("shared abcdefghi;", 7), ("shared a; b;", 10), ("shared a }", 9),
            ("class A { value; }", 15), ("class A { value A; }", 16), ("class A { value a, init; }", 19),
            ("class A { value a, b, c }", 24), ("class A { value a { } }", 18),
            ("class A { promise a: b; }", 18), ("class A { promise init b; }", 23), ("class A { promise init: ; }", 24),
            ("class A { promise init; }", 22), ("class A { promise method: b; }", 24),
            ("class A { promise method m n: b; }", 27), ("class A { promise getter A: b; }", 25),
            ("class A { promise final init: b; }", 18), ("class A { promise init { } }", 23),
            ("class A { promise init: b, B; }", 27), ("class A { promise setter of: b; }", 25),
            ("class A { init m { } }", 15), ("class A { init; }", 14), ("class A { method { } }", 17),
            ("class A { method M { } }", 17), ("class A { method init { } }", 17), ("class A { method abcdefghi { } }", 17),
            ("class A { method m n { } }", 19), ("class A { method m; }", 18), ("class A { methodm { } }", 10),
            ("class A { getter super { } }", 17), ("class A { setter , { } }", 17), ("class A { final { } }", 16),
            ("class A { final chained init { } }", 16), ("class A { chained value a; }", 18),
            ("class A { chained promise init: a; }", 18), ("class A { init { a; } }", 17), ("class A { init { } ; }", 19),
            ("class A { init { init { } } }", 17), ("class A { init { value a; } }", 17), ("class A { init { { } } }", 17),
        ):
            self.stops(text, at)
            self.stops("class Z { }\n" + text, at + 12)

    def test_a_character_that_fits_nowhere(self):
        for text, at in (("?", 0), ("class A { } .", 12), ("class\tA { }", 5), ("class A1 { }", 7), ("class A { }\r", 11),
                         ("class A { # a\n}", 10), ("shared a-b;", 8), ("class \u00c4 { }", 6), ("class A { value \u00e4; }", 16),
                         ("class A_b { }", 7), ("class A { method m { set a ! } }", 27), ("class A [B] { }", 8)):
            self.stops(text, at)

    def test_a_text_that_ends_too_early(self):
        for text in ("shared", "shared a", "shared a,", "class", "class A", "class A(", "class A(B", "class A(B,",
                     "class A(B)", "class A {", "class A { value", "class A { value a", "class A { promise",
                     "class A { promise getter", "class A { promise getter a", "class A { promise init:", "class A { final",
                     "class A { promise init: a", "class A { promise init: a;", "class A { method", "class A { method m",
                     "class A { method m {", "class A { method m { }", "class A { init { set", "class A { init { loop {",
                     "class A { init { loop { }", "shared a; class B { } class A {"):
            self.stops(text, len(text))
            self.stops(text + " \n\n", len(text) + 3)

    def test_six_blocks_in_a_member_and_no_seventh(self):
        six = "class A { chained method m { " + "loop { " * 6
        close = " }" * 8
        self.assertEqual(str(Family(six + "}" + close[2:])), six + "}" + close[2:])
        self.stops(six + "loop { }" + close, len(six) + 5)
        self.stops(six + "if a { } else { }" + close, len(six) + 5)

    def test_the_text_comes_ahead_of_all_else(self):
        self.stops("class A { } class A { } class B(C) { } ?", 39)
        names = ", ".join("abcdefghijkl")
        self.stops("shared " + names + "; }", len("shared " + names + "; "))


def classes(many):
    """The text of so many classes without parts, with different names."""
    letters = "abcdefghij"
    return " ".join(["class C" + letters[k // 10] + letters[k % 10] + " { }" for k in range(many)])


class BoundsTest(Case):
    def test_classes(self):
        self.assertEqual(len(Family(classes(50))), 50)
        self.fails(lambda: Family(classes(51)), TooMany, what="classes")
        self.fails(lambda: Family("class A { } " * 51), TooMany, what="classes")
        self.fails(lambda: Family("class A { } " * 50), Twice, name="A")

    def test_names(self):
        ten = "a, b, c, d, e, f, g, h, i, j"
        self.assertEqual(len(Family("shared " + ten + ";").names), 10)
        self.fails(lambda: Family("shared " + ten + ", k;"), TooMany, what="names")
        self.assertEqual(len(Family("shared " + ten + "; class A { value " + ten + "; }").names), 10)
        for part in ("value k;", "promise init: k;", "promise getter k: a;", "promise setter k: a;", "getter k { }",
                     "setter k { }", "init { set k; }", "init { keep k; }", "init { read k; }", "init { look k; }",
                     "method m { loop { if k { } else { } } }"):
            self.fails(lambda: Family("shared " + ten + "; class A { " + part + " }"), TooMany, what="names")
        for part in ("method k { }", "init { call k; }", "promise method k: a;"):
            self.assertEqual(len(Family("shared " + ten + "; class A { " + part + " }").names), 10)

    def test_steps(self):
        self.assertEqual(len(Family("class A { init { " + "fail; " * 1000 + "} }").body("A", "init")), 1000)
        self.fails(lambda: Family("class A { init { " + "fail; " * 1001 + "} }"), TooMany, what="steps")

    def test_steps_of_all_members_and_in_blocks(self):
        text = "class A { init { " + "super; " * 400 + "} method m { " + "loop { fail; } " * 200 + "} } "
        Family(text + "class B { getter a { " + "either { fail; } or { } " * 100 + "} }")
        self.fails(lambda: Family(text + "class B { getter a { " + "either { fail; } or { } " * 100 + "fail; } }"),
                   TooMany, what="steps")
        self.fails(lambda: Family(text + "class B { setter a { " + "try { } catch { if a { } else { fail; } } " * 67 + "} }"),
                   TooMany, what="steps")

    def test_classes_ahead_of_names_ahead_of_steps(self):
        names = "shared a, b, c, d, e, f, g, h, i, j, k; "
        steps = " class Z { init { " + "fail; " * 1001 + "} }"
        self.fails(lambda: Family(names + classes(50) + steps), TooMany, what="classes")
        self.fails(lambda: Family(names + classes(49) + steps), TooMany, what="names")
        self.fails(lambda: Family(classes(49) + steps), TooMany, what="steps")

    def test_bounds_ahead_of_soundness(self):
        self.fails(lambda: Family("class A { } class A { } " + classes(49)), TooMany, what="classes")
        self.fails(lambda: Family("class A(B) { } shared a, b, c, d, e, f, g, h, i, j, k;"), TooMany, what="names")
        self.fails(lambda: Family("class A(B) { init { " + "fail; " * 1001 + "} }"), TooMany, what="steps")
        self.fails(lambda: Family("class A(B) { init { " + "fail; " * 1000 + "} }"), NoClass, name="B")
