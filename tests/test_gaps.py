"""Point 11: the name and the place of a gap, that it ends everything, and what a maker is like then."""

from earlyfields.engine import Maker
from earlyfields.errors import Gap, NoObject
from earlyfields.families import Family
from tests.helpers import MakingCase, result_of, state_of, words_of


class PlacesOfGapsTest(MakingCase):
    def gap(self, text, name, owner, key, path, *, of="A", picks=()):
        """The making of an object comes to this gap, which is an error with just these fields."""
        self.fails(lambda: Maker(Family(text)).make(of, picks), Gap, name=name, owner=owner, key=key, path=path)

    def test_by_look(self):
        self.gap("class A { init { keep a; look b; } }", "b", "A", "init", (1,))
        self.gap("class A { init { call m; } method m { look a; } }", "a", "A", "method m", (0,))

    def test_by_read(self):
        self.gap("class A { init { keep a; read a; read b; } }", "b", "A", "init", (2,))
        self.gap("class A { init { read a; } getter a { keep a; read b; } }", "b", "A", "getter a", (1,))
        self.gap("class A { init { read a; } getter a { look a; } }", "a", "A", "getter a", (0,))

    def test_by_super_in_a_getter(self):
        self.gap("class A { init { read a; } getter a { keep b; super; } }", "a", "A", "getter a", (1,))
        self.gap("class A { getter a { super; } } class B(A) { getter a { super; } init { read a; } }", "a", "A", "getter a", (0,), of="B")

    def test_by_of_in_a_getter(self):
        self.gap("class A { } class B(A) { getter a { keep b; of A; } init { read a; } }", "a", "B", "getter a", (1,), of="B")
        self.gap("class A { getter a { super; } } class B(A) { getter a { of A; } init { read a; } }", "a", "A", "getter a", (0,), of="B")
        self.gap("class A { } class B(A) { getter a { of A; } } class C(B) { getter a { of B; } init { read a; } }", "a", "B", "getter a", (0,),
                 of="C")

    def test_the_class_is_the_one_in_whose_body_the_step_stands(self):
        self.gap("class A { init { look a; } } class B(A) { } class C(B) { init { super; } }", "a", "A", "init", (0,), of="C")

    def test_inside_blocks(self):
        for block, path, picks in (
            ("if z { } else { keep y; STEP }", (0, 1, 1), ()),
            ("keep z; if z { STEP } else { }", (1, 0, 0), ()),
            ("try { STEP } catch { }", (0, 0, 0), ()),
            ("try { fail; } catch { STEP }", (0, 1, 0), ()),
            ("either { } or { } or { STEP }", (0, 2, 0), (2,)),
            ("keep z; loop { keep y; STEP }", (1, 0, 1), (1,)),
            ("loop { if y { STEP } else { keep y; } }", (0, 0, 0, 0, 0), (1, 1)),
            ("try { try { try { try { try { try { STEP } catch { } } catch { } } catch { } } catch { } } catch { } } catch { }", (0,) * 13, ()),
        ):
            for step in ("look a;", "read a;"):
                text = "class A { init { call m; } method m { " + block.replace("STEP", step) + " } }"
                self.gap(text, "a", "A", "method m", path, picks=picks)
            text = "class A { init { read a; } getter a { " + block.replace("STEP", "super;") + " } }"
            self.gap(text, "a", "A", "getter a", path, picks=picks)

    def test_inside_members_that_were_called(self):
        text = "class A { init { call m; } method m { set b; } setter b { read c; } getter c { make B; } } class B { init { super; of C; } }"
        text = "class C { init { look z; } } " + text.replace("class B", "class B(C)").replace("super; ", "")
        self.gap(text, "z", "C", "init", (0,))

    def test_no_try_catches_it(self):
        for step in ("look a;", "read a;", "call m;", "make B;", "set x;", "read x;", "super;"):
            text = """shared s; class C { init { look q; } } class B { init { look q; } }
                      class A(C) { init { try { STEP } catch { keep s; } keep s; } method m { look q; } setter x { look q; } getter x { look q; } }"""
            maker, result = self.made(text.replace("STEP", step))
            self.assertEqual(result[0], "gap")
            self.assertEqual(state_of(maker), (None, ()))

    def test_it_ends_everything(self):
        text = "shared s; class A { init { call m; keep s; } method m { make B; keep s; } } class B { init { look b; keep s; } }"
        maker, result = self.made(text)
        self.assertEqual(result, ("gap", "b", "B", "init", (0,)))
        self.assertEqual(words_of(maker.walk()), "call make look")
        self.assertEqual(maker.current_shared, ())

    def test_a_name_of_an_object_that_is_shared_as_a_class_value_elsewhere(self):
        self.gap("shared s; class A { init { look s; } } class B { value s; }", "s", "A", "init", (0,))


class BehindAGapTest(MakingCase):
    TEXT = "shared s, t; class A { init { keep s; keep a; } method m { keep t; look q; } getter g { look q; } } class B { init { look q; } }"

    def test_there_is_no_object(self):
        for way in (lambda maker: maker.make("B"), lambda maker: maker.use(("make", "B")), lambda maker: maker.use(("call", "m")),
                    lambda maker: maker.use(("read", "g")), lambda maker: maker.use(("read", "q")), lambda maker: maker.use(("read", "unknown"))):
            maker = Maker(Family(self.TEXT))
            self.assertIs(maker.make("A"), True)
            self.assertEqual(result_of(lambda: way(maker))[0], "gap")
            self.assertEqual((maker.current_own, maker.current_class), (None, None))
            for deed in (("call", "m"), ("set", "a"), ("read", "a")):
                self.fails(lambda: maker.use(deed), NoObject)

    def test_shared_names_and_events_stay(self):
        maker = Maker(Family(self.TEXT))
        maker.make("A")
        self.assertEqual(result_of(lambda: maker.use(("call", "m"))), ("gap", "q", "A", "method m", (1,)))
        self.assertEqual(maker.current_shared, ("s", "t"))
        self.assertEqual(maker.event_count, 4)
        self.assertEqual(list(maker.walk()), [(0, "A", "method m", (0,), "keep"), (0, "A", "method m", (1,), "look")])

    def test_the_maker_may_be_used_further(self):
        maker = Maker(Family(self.TEXT))
        for k in range(3):
            self.assertEqual(result_of(lambda: maker.make("B")), ("gap", "q", "B", "init", (0,)))
            self.assertIs(maker.make("A"), True)
            self.assertEqual(state_of(maker), (("a",), ("s",)))
            self.assertEqual([event[0] for event in maker.walk()], [2 * k + 1, 2 * k + 1])

    def test_the_place_in_a_read_itself(self):
        maker = Maker(Family(self.TEXT))
        for name in ("q", "s", "unknown"):
            maker.make("A")
            if name == "s":
                self.assertIs(maker.use(("read", name)), True)
                continue
            self.fails(lambda: maker.use(("read", name)), Gap, name=name, owner=None, key=None, path=())
            self.assertEqual(list(maker.walk()), [])

    def test_the_place_in_a_read_with_a_getter(self):
        maker = Maker(Family(self.TEXT + "class C(A) { getter k { super; } }"))
        maker.make("C")
        self.fails(lambda: maker.use(("read", "g")), Gap, name="q", owner="A", key="getter g", path=(0,))
        maker.make("C")
        self.fails(lambda: maker.use(("read", "k")), Gap, name="k", owner="C", key="getter k", path=(0,))

    def test_a_shared_name_in_a_read_itself(self):
        maker = Maker(Family("shared s; class A { }"))
        maker.make("A")
        self.fails(lambda: maker.use(("read", "s")), Gap, name="s", owner=None, key=None, path=())
