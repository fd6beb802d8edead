"""Point 10, and 9: what each step does for an object, in members with each kind of key and within blocks."""

from earlyfields.engine import Maker
from earlyfields.families import Family
from tests.helpers import MakingCase, result_of, state_of, words_of

# A place for a step in each kind of member, and within blocks; the object is of the class B.
PLACES = (
    ("init", (0,), "class A { init { STEP } } class B(A) { }"),
    ("method m", (0,), "class A { method m { STEP } } class B(A) { init { call m; } }"),
    ("setter x", (0,), "class A { setter x { STEP } } class B(A) { init { set x; } }"),
    ("getter x", (0,), "class A { getter x { STEP } } class B(A) { init { read x; } }"),
    ("init", (0, 0, 0), "class A { init { try { STEP } catch { fail; } } } class B(A) { }"),
    ("init", (0, 1, 0), "class A { init { if x { } else { STEP } } } class B(A) { }"),
    ("method m", (1, 0, 1), "class A { method m { call n; either { call n; STEP } or { } } } class B(A) { init { call m; } }"),
    ("setter x", (0, 0, 0), "class A { setter x { loop { STEP } } } class B(A) { init { set x; } }"),
)


class NamesTest(MakingCase):
    def places(self):
        """For each place its key, its path, the text of the family with STEP to be replaced, and picks that lead there."""
        for key, path, text in PLACES:
            yield key, path, text, (1,) if "loop" in text else ()

    def test_keep(self):
        for key, path, text, picks in self.places():
            self.making(text.replace("STEP", "keep a;"), True, ("a",), owner="B", picks=picks)
            self.making("shared a, b; " + text.replace("STEP", "keep a;"), True, (), ("a",), owner="B", picks=picks)

    def test_keep_calls_no_setter(self):
        self.making("class A { init { keep a; } setter a { keep b; } }", True, ("a",), (), "keep")

    def test_keep_of_a_shared_name_that_is_a_class_value(self):
        self.making("shared s; class A { value s; init { } }", True, ("s",), ())
        self.making("shared s; class A { value s; init { keep s; } }", True, ("s",), ("s",))

    def test_look(self):
        for key, path, text, picks in self.places():
            gap = ("gap", "a", "A", key, path)
            self.making(text.replace("STEP", "look a;"), gap, None, owner="B", picks=picks)
            self.making("shared a; " + text.replace("STEP", "look a;"), gap, None, owner="B", picks=picks)
            self.making("shared a; " + text.replace("STEP", "look a;"), True, (), ("a",), owner="B", picks=picks, given=["a"])
            self.making(text.replace("STEP", "look a;") + "class C(B) { value a; }", True, ("a",), owner="C", picks=picks)

    def test_look_calls_no_getter(self):
        self.making("class A { init { look a; } getter a { } }", ("gap", "a", "A", "init", (0,)), None, (), "look")

    def test_look_at_a_shared_name_that_is_a_class_value(self):
        text = "shared s; class A { value s; init { look s; make B; } } class B { init { look s; } }"
        self.making(text, ("gap", "s", "B", "init", (0,)), None, (), "look make look")
        self.making(text, True, ("s",), ("s",), given=["s"])

    def test_set_without_a_setter(self):
        for key, path, text, picks in self.places():
            self.making(text.replace("STEP", "set a;"), True, ("a",), owner="B", picks=picks)
            self.making("shared a; " + text.replace("STEP", "set a;"), True, (), ("a",), owner="B", picks=picks)

    def test_set_with_a_setter(self):
        for key, path, text, picks in self.places():
            text = text.replace("STEP", "set a;")
            self.making(text + "class C(B) { setter a { keep b; } }", True, ("b",), owner="C", picks=picks)
            self.making(text + "class C(B) { setter a { } }", True, (), owner="C", picks=picks)
            self.making("class D { setter a { keep b; } } " + text + "class C(B, D) { }", True, ("b",), owner="C", picks=picks)

    def test_set_finds_the_setter_in_the_order_of_the_object(self):
        text = "class A { init { set a; } setter a { keep b; } } class B(A) { setter a { keep c; } } class C(A) { } class D(C, B) { }"
        for owner, own in (("A", ("b",)), ("B", ("c",)), ("C", ("b",)), ("D", ("c",))):
            self.making(text, True, own, (), "set keep", owner=owner)

    def test_a_setter_of_a_shared_name(self):
        self.making("shared a; class A { init { set a; } setter a { keep b; } }", True, ("b",), ())

    def test_read_without_a_getter(self):
        for key, path, text, picks in self.places():
            gap = ("gap", "a", "A", key, path)
            self.making(text.replace("STEP", "read a;"), gap, None, owner="B", picks=picks)
            self.making("shared a; " + text.replace("STEP", "read a;"), gap, None, owner="B", picks=picks)
            self.making("shared a; " + text.replace("STEP", "read a;"), True, (), ("a",), owner="B", picks=picks, given=["a"])
            self.making(text.replace("STEP", "keep a; read a;"), True, ("a",), owner="B", picks=picks)

    def test_read_with_a_getter(self):
        for key, path, text, picks in self.places():
            text = text.replace("STEP", "read a;")
            self.making(text + "class C(B) { getter a { } }", True, (), owner="C", picks=picks)
            self.making(text + "class C(B) { getter a { look a; } }", ("gap", "a", "C", "getter a", (0,)), None, owner="C", picks=picks)
            self.making(text + "class C(B) { value a; getter a { look b; } }", ("gap", "b", "C", "getter a", (0,)), None,
                        owner="C", picks=picks)

    def test_read_finds_the_getter_in_the_order_of_the_object(self):
        text = "class A { init { read a; } getter a { keep b; } } class B(A) { getter a { keep c; } } class C(A) { } class D(C, B) { }"
        for owner, own in (("A", ("b",)), ("B", ("c",)), ("C", ("b",)), ("D", ("c",))):
            self.making(text, True, own, (), "read keep", owner=owner)

    def test_a_getter_is_no_setter_and_a_method_neither(self):
        text = "class A { init { STEP a; } method a { keep m; } setter a { keep s; } getter a { keep g; } }"
        for word, own in (("call", ("m",)), ("set", ("s",)), ("read", ("g",))):
            self.making(text.replace("STEP", word), True, own)

    def test_call(self):
        for key, path, text, picks in self.places():
            text = text.replace("STEP", "call q; keep z;")
            self.making(text, True, ("z",), owner="B", picks=picks)
            self.making(text + "class C(B) { method q { keep a; } }", True, ("a", "z"), owner="C", picks=picks)
            self.making(text + "class C(B) { method q { keep a; } } class D(C) { method q { keep b; } }", True, ("b", "z"),
                        owner="D", picks=picks)


class SuperTest(MakingCase):
    def test_in_an_init(self):
        self.making("class A { init { super; keep a; } }", True, ("a",), (), "super keep")
        self.making("class A { init { keep b; } } class B(A) { init { super; keep a; } }", True, ("a", "b"), (),
                    "super keep keep", owner="B")
        self.making("class A { init { keep b; } } class B(A) { init { keep a; } }", True, ("a",), (), "keep", owner="B")

    def test_in_a_method(self):
        self.making("class A { init { call m; } method m { super; keep a; } }", True, ("a",), (), "call super keep")
        self.making("class A { method m { keep b; } method n { keep c; } } class B(A) { init { call m; } method m { super; super; } }",
                    True, ("b",), (), "call super keep super keep", owner="B")

    def test_in_a_setter(self):
        self.making("class A { init { set a; } setter a { super; } }", True, ("a",), (), "set super")
        self.making("shared a; class A { init { set a; } setter a { super; } }", True, (), ("a",), "set super")
        self.making("class A { setter a { } } class B(A) { init { set a; } setter a { super; } }", True, (), (), "set super", owner="B")

    def test_in_a_getter(self):
        gap = ("gap", "a", "A", "getter a", (0,))
        self.making("class A { init { read a; } getter a { super; } }", gap, None, (), "read super")
        self.making("class A { value a; init { read a; } getter a { super; } }", True, ("a",), (), "read super")
        self.making("shared a; class A { init { read a; } getter a { super; } }", gap, None, (), "read super")
        self.making("shared a; class A { init { read a; } getter a { super; } }", True, (), ("a",), "read super", given=["a"])
        self.making("class A { getter a { } } class B(A) { init { read a; } getter a { super; } }", True, (), (), "read super", owner="B")

    def test_within_blocks(self):
        self.making("class A { init { keep a; } } class B(A) { init { try { if b { } else { either { super; } or { } } } catch { } } }",
                    True, ("a",), (), "try if either super keep", owner="B")
        self.making("class A { init { set a; } setter a { loop { super; } } }", True, ("a",), (), "set loop super loop", picks=[1])

    def test_it_goes_on_in_the_order_of_the_object(self):
        text = """class A { init { keep a; } } class B(A) { init { super; keep b; } } class C(A) { init { super; keep c; } }
                  class D(B, C) { init { super; } }"""
        maker = self.making(text, True, ("a", "b", "c"), (), "super super super keep keep keep", owner="D")
        self.assertEqual([event[1] for event in maker.walk()], ["D", "B", "C", "A", "C", "B"])
        self.making(text, True, ("a", "b"), (), "super keep keep", owner="B")

    def test_it_leaves_out_classes_without_the_key(self):
        self.making("class A { init { keep a; } } class B(A) { method m { } } class C(B) { init { super; } }", True, ("a",), (),
                    "super keep", owner="C")

    def test_behind_the_last_getter_a_step_goes_on(self):
        self.making("class A { value a; init { read a; } getter a { super; super; keep b; } }", True, ("a", "b"), (), "read super super keep")


class OfTest(MakingCase):
    def test_it_executes_the_member_that_the_ancestor_finds(self):
        text = "class A { init { keep a; } } class B(A) { init { keep b; } } class C(B) { } class D(C) { init { of STEP; } }"
        for name, own in (("A", ("a",)), ("B", ("b",)), ("C", ("b",))):
            self.making(text.replace("STEP", name), True, own, (), "of keep", owner="D")

    def test_the_member_with_the_same_key(self):
        text = """class A { init { keep i; } method m { keep m; } method n { keep n; } setter m { keep s; } getter m { keep g; } }
                  class B(A) { KEY { of A; } } class C(B) { init { STEP } }"""
        for key, step, name in (("method m", "call m;", "m"), ("method n", "call n;", "n"), ("setter m", "set m;", "s"),
                                ("getter m", "read m;", "g"), ("init", "super;", "i")):
            self.making(text.replace("KEY", key).replace("STEP", step), True, (name,), owner="C")

    def test_without_a_member(self):
        text = "class A { } class B(A) { KEY { of A; keep z; } } class C(B) { init { STEP } }"
        for key, step, own in (("init", "super;", ("z",)), ("method m", "call m;", ("z",)), ("setter a", "set a;", ("a", "z"))):
            self.making(text.replace("KEY", key).replace("STEP", step), True, own, owner="C")
        text = text.replace("KEY", "getter a").replace("STEP", "read a;")
        self.making(text, ("gap", "a", "B", "getter a", (0,)), None, (), "read of", owner="C")
        self.making(text.replace("class C(B) {", "class C(B) { value a;"), True, ("a", "z"), (), "read of keep", owner="C")
        self.making("shared a; " + text.replace("getter", "setter").replace("read", "set"), True, ("z",), ("a",), "set of keep", owner="C")

    def test_classes_that_are_not_ancestors_of_the_named_one_do_not_count(self):
        # The order is D, B, C, A: `super` of B goes on to C, `of A` and `of B` do not.
        text = """class A { method m { keep a; } } class B(A) { method m { STEP } } class C(A) { method m { keep c; } }
                  class D(B, C) { init { call m; } }"""
        self.making(text.replace("STEP", "of A;"), True, ("a",), owner="D")
        self.making(text.replace("STEP", "super;"), True, ("c",), owner="D")

    def test_super_in_a_body_that_was_reached_by_it_goes_on_in_the_order_of_the_object(self):
        text = """class A { method m { keep a; } } class B(A) { method m { super; keep b; } } class C(A) { method m { keep c; super; } }
                  class E(B) { method m { keep e; } } class D(E, C) { method m { of B; } init { call m; } }"""
        maker = self.making(text, True, ("a", "b", "c"), (), "call of super keep super keep keep", owner="D")
        self.assertEqual([event[1] for event in maker.walk()], ["D", "D", "B", "C", "C", "A", "B"])

    def test_super_behind_it_where_nothing_stands(self):
        text = "class A { setter a { super; } getter a { super; } } class B(A) { init { STEP a; } setter a { of A; } getter a { of A; } }"
        self.making(text.replace("STEP", "set"), True, ("a",), (), "set of super", owner="B")
        self.making(text.replace("STEP", "read"), ("gap", "a", "A", "getter a", (0,)), None, (), "read of super", owner="B")

    def test_it_may_be_executed_again_and_again(self):
        self.making("class A { init { keep a; } } class B(A) { init { of A; of A; super; } }", True, ("a",), (), "of keep of keep super keep",
                    owner="B")


class MakeTest(MakingCase):
    def test_a_new_object_is_made_and_forgotten(self):
        maker = self.making("class A { init { keep a; make B; keep c; } } class B { value v; init { look v; keep b; } }",
                            True, ("a", "c"), (), "keep make look keep keep")
        self.assertEqual([event[0] for event in maker.walk()], [0, 0, 1, 1, 0])
        self.assertEqual(maker.current_class, "A")

    def test_it_owns_nothing_of_the_other_object(self):
        self.making("class A { value v; init { keep a; make B; } } class B { init { look a; } }", ("gap", "a", "B", "init", (0,)), None)
        self.making("class A { value v; init { keep a; make B; } } class B { init { look v; } }", ("gap", "v", "B", "init", (0,)), None)
        self.making("class A { init { make B; look a; } } class B { init { keep a; } }", ("gap", "a", "A", "init", (1,)), None)

    def test_shared_names_stay(self):
        self.making("shared s; class A { init { make B; look s; } } class B { init { keep s; } }", True, (), ("s",))
        self.making("shared s; class A { init { keep s; make B; } } class B { init { look s; } }", True, (), ("s",))

    def test_just_the_class(self):
        text = "class A { init { keep a; call m; } method m { } } class B(A) { method m { keep b; } } class C(B) { init { make A; make B; } }"
        maker = self.making(text, True, (), (), "make keep call make keep call keep", owner="C")
        self.assertEqual([event[:2] for event in maker.walk()],
                         [(0, "C"), (1, "A"), (1, "A"), (0, "C"), (2, "A"), (2, "A"), (2, "B")])

    def test_a_class_without_an_init(self):
        maker = self.making("class A { init { make B; make B; make C; } } class B { method m { fail; } } class C { init { keep c; } }",
                            True, (), (), "make make make keep")
        self.assertEqual([event[0] for event in maker.walk()], [0, 0, 0, 3])

    def test_one_that_fails(self):
        text = "class A { init { make B; keep a; } } class B { init { keep s; fail; } }"
        self.making("shared s; " + text, False, None, ("s",), "make keep fail")

    def test_itself(self):
        maker, result = self.made("class A { init { make A; } }", limit=5)
        self.assertEqual(result, ("long", 5))
        self.assertEqual([event[0] for event in maker.walk()], [0, 1, 2, 3, 4])
        self.making("shared s; class A { init { if s { keep a; } else { keep s; make A; } } }", True, (), ("s",), "if keep make if keep")

    def test_in_each_kind_of_member(self):
        for key, path, text in PLACES[:4]:
            maker = self.making(text.replace("STEP", "make D;") + "class D { init { keep d; } }", True, (), owner="B")
            self.assertEqual(list(maker.walk())[-2:], [(0, "A", key, path, "make"), (1, "D", "init", (0,), "keep")])

    def test_an_earlier_and_a_later_class(self):
        self.making("shared a, c; class A { init { keep a; } } class B { init { make A; make C; } } class C { init { keep c; } }",
                    True, (), ("a", "c"), "make keep make keep", owner="B")


class FailTest(MakingCase):
    def test_the_steps_behind_are_not_executed(self):
        self.making("shared s; class A { init { keep s; fail; keep a; } }", False, None, ("s",), "keep fail")

    def test_each_member_that_executes_it_fails(self):
        text = "class A { KEY { keep s; fail; } } class B(A) { init { STEP keep t; } KEY { WAY keep t; } }"
        for key, step in (("method m", "call m;"), ("setter a", "set a;"), ("getter a", "read a;")):
            for way in ("super;", "of A;"):
                family = "shared s, t; " + text.replace("KEY", key).replace("STEP", step).replace("WAY", way)
                self.making(family, False, None, ("s",), step.split()[0] + " " + way.split(";")[0].split()[0] + " keep fail", owner="B")
        for way in ("super;", "of A;"):
            self.making("shared s, t; class A { init { keep s; fail; } } class B(A) { init { WAY keep t; } }".replace("WAY", way),
                        False, None, ("s",), owner="B")

    def test_within_blocks(self):
        for block in ("if z { } else { fail; }", "either { fail; } or { }", "loop { fail; }", "try { fail; } catch { fail; }",
                      "try { if z { } else { either { } or { fail; } } } catch { fail; }"):
            picks = [1] if "loop" in block or "} or { fail" in block else []
            maker, result = self.made("shared s; class A { init { " + block + " keep s; } }", picks=picks)
            self.assertIs(result, False)
            self.assertEqual(state_of(maker), (None, ()))

    def test_the_result_is_a_truth_value(self):
        maker = Maker(Family("class A { init { fail; } } class B { init { } } class C { }"))
        self.assertIs(maker.make("A"), False)
        self.assertIs(maker.make("B"), True)
        self.assertIs(maker.make("C"), True)


class TryTest(MakingCase):
    def test_the_second_block_is_executed_if_the_first_one_fails(self):
        self.making("class A { init { try { keep a; fail; keep b; } catch { keep c; } keep d; } }", True, ("a", "c", "d"), (),
                    "try keep fail keep keep")
        self.making("class A { init { try { keep a; } catch { keep c; } keep d; } }", True, ("a", "d"), (), "try keep keep")
        self.making("class A { init { try { } catch { keep c; } keep d; } }", True, ("d",), (), "try keep")
        self.making("class A { init { try { fail; } catch { } keep d; } }", True, ("d",), (), "try fail keep")

    def test_from_what_holds_then(self):
        self.making("shared s; class A { init { try { keep a; keep s; fail; } catch { look a; look s; } } }", True, ("a",), ("s",))

    def test_it_fails_if_the_second_block_does(self):
        self.making("shared s; class A { init { try { fail; } catch { keep s; fail; } keep a; } }", False, None, ("s",), "try fail keep fail")
        self.making("class A { init { try { try { fail; } catch { fail; } keep a; } catch { keep b; } } }", True, ("b",), (),
                    "try try fail fail keep")

    def test_the_second_block_does_not_rescue_itself_nor_what_follows(self):
        self.making("class A { init { try { } catch { keep a; } fail; } }", False, None, (), "try fail")
        self.making("class A { init { try { try { } catch { keep a; } fail; } catch { keep b; } } }", True, ("b",), (), "try try fail keep")
        self.making("class A { init { try { try { fail; } catch { keep a; } fail; } catch { keep b; } } }", True, ("a", "b"), (),
                    "try try fail keep fail keep")

    def test_around_each_step_that_executes_something(self):
        members = "class A { KEY { keep b; fail; } } class B(A) { init { try { STEP keep c; } catch { keep d; } } KEY { WAY keep c; } }"
        for key, step in (("method m", "call m;"), ("setter a", "set a;"), ("getter a", "read a;")):
            for way in ("super;", "of A;"):
                text = members.replace("KEY", key).replace("STEP", step).replace("WAY", way)
                self.making(text, True, ("b", "d"), owner="B")
        for step in ("super;", "of A;"):
            self.making("class A { init { keep b; fail; } } class B(A) { init { try { STEP keep c; } catch { keep d; } } }".replace("STEP", step),
                        True, ("b", "d"), owner="B")
        self.making("class A { init { keep b; fail; } } class B { init { try { make A; keep c; } catch { keep d; } } }", True, ("d",), (),
                    "try make keep fail keep", owner="B")

    def test_around_steps_that_execute_nothing(self):
        for step in ("keep a;", "set a;", "call m;", "super;", "make B;", "if a { } else { }", "either { } or { }", "loop { }"):
            self.making("class A { init { try { STEP } catch { keep z; } } } class B { }".replace("STEP", step), True,
                        ("a",) if step in ("keep a;", "set a;") else ())
        self.making("class A { } class B(A) { init { try { of A; } catch { keep z; } } }", True, (), owner="B")
        self.making("class A { value a; init { try { look a; read a; } catch { keep z; } } }", True, ("a",))

    def test_deep_inside_of_what_it_executes(self):
        text = """class A { init { try { call m; } catch { keep r; } keep z; } method m { call n; keep x; }
                  method n { if q { } else { either { loop { make B; } } or { } } keep x; } }
                  class B { init { try { fail; } catch { call n; } keep x; } method n { fail; } }"""
        self.making(text, True, ("r", "z"), (), "try call call if either loop make try fail call fail keep keep", picks=[0, 1])

    def test_a_getter_that_fails_shows_no_gap(self):
        self.making("class A { init { try { read a; } catch { } } getter a { fail; look a; } }", True, (), (), "try read fail")


class IfTest(MakingCase):
    TEXT = "init { if a { keep y; } else { keep n; } }"

    def test_without_a_value(self):
        self.making("class A { " + self.TEXT + " }", True, ("n",), (), "if keep")
        self.making("shared a; class A { " + self.TEXT + " }", True, ("n",), (), "if keep")

    def test_with_a_value(self):
        self.making("class A { " + self.TEXT.replace("{ if", "{ keep a; if") + " }", True, ("a", "y"))
        self.making("shared a; class A { " + self.TEXT.replace("{ if", "{ keep a; if") + " }", True, ("y",), ("a",))
        self.making("shared a; class A { " + self.TEXT + " }", True, ("y",), ("a",), given=("a",))

    def test_with_a_class_value(self):
        self.making("class A { value a; " + self.TEXT + " }", True, ("a", "y"))
        self.making("class B { value a; } class A(B) { " + self.TEXT + " }", True, ("a", "y"))
        self.making("class A { " + self.TEXT + " } class B { value a; }", True, ("n",))

    def test_with_a_class_value_that_is_a_shared_name(self):
        self.making("shared a; class A { value a; " + self.TEXT + " }", True, ("a", "y"), ())
        self.making("shared a; class A { " + self.TEXT + " } class B { value a; init { make A; } }", True, ("a",), (), "make if keep", owner="B")

    def test_empty_blocks_and_what_follows(self):
        self.making("class A { init { if a { } else { } keep b; if b { } else { fail; } keep c; } }", True, ("b", "c"), (), "if keep if keep")

    def test_no_getter_is_called(self):
        self.making("class A { init { if a { keep b; } else { keep c; } } getter a { fail; } }", True, ("c",), (), "if keep")


class ChosenByPicksTest(MakingCase):
    def test_either_with_two_to_nine_blocks(self):
        names = "abcdefghi"
        for many in range(2, 10):
            text = "class A { init { either " + " or ".join(["{ keep %s; }" % name for name in names[:many]]) + " } }"
            for pick in list(range(-20, 21)) + [10 ** 29, -10 ** 29, 10 ** 29 + 7, -10 ** 29 - 7]:
                maker, result = self.made(text, picks=[pick])
                self.assertIs(result, True)
                self.assertEqual(maker.current_own, (names[pick % many],), (many, pick))

    def test_loop(self):
        text = "class A { init { loop { make B; } } } class B { }"
        for picks, rounds in (([], 0), ([0], 0), ([1], 1), ([1, 1, 1], 3), ([1, 1, 0, 1], 2), ([-1, 3, -10 ** 29 - 1, 10 ** 29 + 1, 2, 1], 4),
                              ([-2, 1], 0), ((1, 1), 2)):
            maker, result = self.made(text, picks=picks)
            self.assertIs(result, True)
            self.assertEqual(words_of(maker.walk()), "loop make " * rounds + "loop")

    def test_a_loop_within_a_loop(self):
        text = "class A { init { loop { keep a; loop { keep b; } keep c; } keep d; } }"
        self.making(text, True, ("a", "b", "c", "d"), (), "loop keep loop keep loop keep loop keep loop keep loop keep",
                    picks=[1, 1, 0, 1, 0, 0])

    def test_a_loop_that_fails_is_left(self):
        self.making("class A { init { try { loop { either { } or { fail; } } } catch { keep a; } loop { keep b; } } }",
                    True, ("a", "b"), (), "try loop either loop either fail keep loop keep loop", picks=[1, 0, 1, 1, 1, 0])

    def test_how_many_picks_are_taken(self):
        # Only `either` and each turn of a `loop` take one; what is left chooses at the end.
        text = """class A { init { STEP either { keep a; } or { keep b; } or { keep c; } } method m { } setter v { super; } getter v { }
                  method f { fail; } } class B { init { } }"""
        for step, picks in (("", [2]), ("keep z; set z; look z; read z;", [2]), ("call m; set v; read v; call q;", [2]),
                            ("make B; super; if z { } else { }", [2]), ("try { fail; } catch { }", [2]), ("try { call f; } catch { }", [2]),
                            ("either { } or { }", [2, 2]), ("loop { }", [0, 2]), ("loop { }", [1, 1, 0, 2]), ("loop { }", [1, 1, 1, -2, 2]),
                            ("either { loop { } } or { either { } or { } }", [0, 1, 0, 2]),
                            ("either { loop { } } or { either { } or { } }", [1, 1, 2]),
                            ("if z { either { } or { } } else { }", [2]), ("try { } catch { either { } or { } }", [2]),
                            ("either { } or { } either { } or { } or { } either { } or { } or { }", [1, 1, 1, 2])):
            maker, result = self.made(text.replace("STEP", step), picks=picks)
            self.assertIs(result, True)
            self.assertIn("c", maker.current_own, step)

    def test_behind_the_end_every_pick_is_0(self):
        text = "class A { init { either { keep a; } or { keep b; } either { keep c; } or { keep d; } loop { fail; } } }"
        for picks, own in (([], ("a", "c")), ([1], ("b", "c")), ([0, 1], ("a", "d")), ([1, 1], ("b", "d")), ([1, 1, 0, 5, 7, 9], ("b", "d"))):
            self.making(text, True, own, (), picks=picks)

    def test_a_new_object_takes_the_picks_that_follow(self):
        self.making("class A { init { either { } or { make B; } either { keep a; } or { keep b; } } } class B { init { either { fail; } or { } } }",
                    True, ("b",), (), "either make either either keep", picks=[1, 1, 1])


class StateTest(MakingCase):
    def test_values_of_the_classes_of_the_order_at_birth(self):
        text = "class A { value a; } class B { value b; } class C(B) { } class D(C, A) { value d; } class E { value e; }"
        for owner, own in (("A", ("a",)), ("C", ("b",)), ("D", ("a", "b", "d")), ("E", ("e",))):
            self.making(text, True, own, owner=owner)

    def test_names_never_lose_their_values(self):
        family = Family("shared s; class A { init { keep s; keep a; } method m { fail; } }")
        maker = Maker(family)
        self.assertIs(maker.make("A"), True)
        for deed in (("call", "m"), ("call", "q"), ("set", "b"), ("read", "a")):
            result_of(lambda: maker.use(deed))
        self.assertEqual(state_of(maker), (("a", "b"), ("s",)))
