"""Point 12: events, the numbers of objects, the limit, and bodies that execute one another as deep as it allows."""

from earlyfields.engine import Maker
from earlyfields.errors import Long
from earlyfields.families import Family
from tests.helpers import MakingCase, result_of, state_of, words_of


class EventsTest(MakingCase):
    def test_every_step_with_its_number_class_key_path_and_word(self):
        text = """
            class A { init { keep a; set b; read c; call m; make D; } setter b { super; } getter c { keep c; } }
            class B(A) { init { of A; look a; } method m { if z { } else { either { } or { try { fail; } catch { loop { super; } } } } } }
            class D { init { keep d; } }
        """
        maker, result = self.made(text, "B", [1, 1, 0])
        self.assertIs(result, True)
        self.assertEqual(list(maker.walk()), [
            (0, "B", "init", (0,), "of"),
            (0, "A", "init", (0,), "keep"),
            (0, "A", "init", (1,), "set"),
            (0, "A", "setter b", (0,), "super"),
            (0, "A", "init", (2,), "read"),
            (0, "A", "getter c", (0,), "keep"),
            (0, "A", "init", (3,), "call"),
            (0, "B", "method m", (0,), "if"),
            (0, "B", "method m", (0, 1, 0), "either"),
            (0, "B", "method m", (0, 1, 0, 1, 0), "try"),
            (0, "B", "method m", (0, 1, 0, 1, 0, 0, 0), "fail"),
            (0, "B", "method m", (0, 1, 0, 1, 0, 1, 0), "loop"),
            (0, "B", "method m", (0, 1, 0, 1, 0, 1, 0, 0, 0), "super"),
            (0, "B", "method m", (0, 1, 0, 1, 0, 1, 0), "loop"),
            (0, "A", "init", (4,), "make"),
            (1, "D", "init", (0,), "keep"),
            (0, "B", "init", (1,), "look"),
        ])

    def test_paths_within_blocks(self):
        text = "class A { init { keep a; if a { keep b; keep c; } else { keep d; } keep e; if q { } else { keep f; keep g; } } }"
        maker, result = self.made(text)
        self.assertEqual([event[3] for event in maker.walk()], [(0,), (1,), (1, 0, 0), (1, 0, 1), (2,), (3,), (3, 1, 0), (3, 1, 1)])
        text = "class A { init { loop { keep a; either { keep b; } or { keep c; } or { keep d; keep e; } keep f; } keep g; } }"
        maker, result = self.made(text, picks=[1, 2, 1, 1, 0])
        self.assertEqual([event[3] for event in maker.walk()], [
            (0,), (0, 0, 0), (0, 0, 1), (0, 0, 1, 2, 0), (0, 0, 1, 2, 1), (0, 0, 2),
            (0,), (0, 0, 0), (0, 0, 1), (0, 0, 1, 1, 0), (0, 0, 2), (0,), (1,)])

    def test_a_loop_is_one_event_each_time_it_takes_a_pick(self):
        for many in range(5):
            maker, result = self.made("class A { init { loop { } } }", picks=[1] * many)
            self.assertEqual(list(maker.walk()), [(0, "A", "init", (0,), "loop")] * (many + 1))

    def test_numbers_of_objects(self):
        text = """class A { init { make B; keep a; make B; } } class B { init { keep a; make C; keep b; } } class C { init { call m; } }
                  class D { } class E { init { make D; make C; fail; } }"""
        maker = Maker(Family(text))
        maker.make("A")
        self.assertEqual([event[0] for event in maker.walk()], [0, 1, 1, 2, 1, 0, 0, 3, 3, 4, 3])
        maker.use(("call", "x"))
        maker.use(("make", "D"))
        maker.make("C")
        self.assertEqual([event[0] for event in maker.walk()], [6])
        self.assertIs(maker.make("E"), False)
        self.assertEqual([event[0] for event in maker.walk()], [7, 7, 9, 7])
        maker.use(("make", "C"))
        self.assertEqual([event[0] for event in maker.walk()], [10])

    def test_numbers_behind_a_gap_and_the_limit(self):
        maker = Maker(Family("class A { init { make B; } } class B { init { look b; } } class C { init { keep c; } }"))
        self.assertEqual(result_of(lambda: maker.make("A"))[0], "gap")
        maker.make("C")
        self.assertEqual([event[0] for event in maker.walk()], [2])
        maker.limit = 1
        self.assertEqual(result_of(lambda: maker.make("A")), ("long", 1))
        maker.make("C")
        self.assertEqual([event[0] for event in maker.walk()], [5])

    def test_the_numbers_of_deeds_are_those_of_the_object(self):
        maker = Maker(Family("class A { init { make B; } method m { keep a; make B; } } class B { init { keep b; } }"))
        maker.make("A")
        maker.use(("call", "m"))
        self.assertEqual([event[0] for event in maker.walk()], [0, 0, 2])

    def test_deeds_have_no_event_of_their_own(self):
        maker = Maker(Family("class A { setter v { keep v; } }"))
        for deed, words in ((("make", "A"), ""), (("call", "m"), ""), (("set", "x"), ""), (("set", "v"), "keep"), (("read", "v"), "")):
            maker.use(deed)
            self.assertEqual(words_of(maker.walk()), words)
        self.assertEqual(maker.event_count, 1)

    def test_event_count(self):
        maker = Maker(Family("class A { init { keep a; keep b; } method m { keep c; } method n { look z; } method o { fail; } }"))
        self.assertEqual(maker.event_count, 0)
        for deed, many in ((("make", "A"), 2), (("call", "m"), 3), (("make", "A"), 5), (("call", "o"), 6), (("call", "x"), 6), (("call", "n"), 7)):
            result_of(lambda: maker.use(deed))
            self.assertEqual(maker.event_count, many)


class LimitTest(MakingCase):
    def test_exactly_reached_and_one_less(self):
        text = "class A { init { keep a; try { fail; } catch { loop { } } call m; } method m { super; } }"
        for picks, many in (((), 6), ((1, 1), 8)):
            maker, result = self.made(text, picks=picks, limit=many)
            self.assertIs(result, True)
            maker, result = self.made(text, picks=picks, limit=many - 1)
            self.assertEqual(result, ("long", many - 1))
            self.assertEqual(maker.event_count, many - 1)
            self.assertEqual(state_of(maker), (None, ()))

    def test_it_is_an_error_with_the_limit(self):
        self.fails(lambda: self.endless(7).make("A"), Long, most=7)
        self.fails(lambda: self.endless().make("A"), Long, most=200)

    def endless(self, *limit):
        """A maker whose objects call themselves for ever."""
        family = Family("shared s; class A { init { call m; } method m { try { call m; } catch { keep s; } } }")
        return Maker(family, limit=limit[0]) if limit else Maker(family)

    def test_it_is_no_failure(self):
        maker = self.endless()
        self.assertEqual(result_of(lambda: maker.make("A")), ("long", 200))
        self.assertEqual(maker.current_shared, ())

    def test_an_event_beyond_it_does_nothing(self):
        maker, result = self.made("shared s, t; class A { init { keep s; keep t; } }", limit=1)
        self.assertEqual(result, ("long", 1))
        self.assertEqual(maker.current_shared, ("s",))
        self.assertEqual(list(maker.walk()), [(0, "A", "init", (0,), "keep")])

    def test_an_event_beyond_it_shows_no_gap_and_does_not_fail(self):
        for step in ("look z;", "fail;"):
            maker, result = self.made("class A { init { keep a; " + step + " } }", limit=1)
            self.assertEqual(result, ("long", 1))

    def test_it_counts_for_each_call_anew(self):
        maker = Maker(Family("class A { init { keep a; keep b; } method m { keep c; keep d; } method n { call m; } }"), limit=2)
        for _ in range(3):
            self.assertIs(maker.make("A"), True)
            self.assertIs(maker.use(("call", "m")), True)
            self.assertEqual(result_of(lambda: maker.use(("call", "n"))), ("long", 2))
            self.assertEqual(maker.current_class, None)

    def test_it_is_changed_between_two_calls(self):
        maker = Maker(Family("class A { init { keep a; keep b; keep c; } }"), limit=3)
        self.assertIs(maker.make("A"), True)
        maker.limit = 2
        self.assertEqual(result_of(lambda: maker.make("A")), ("long", 2))
        self.assertIsNone(maker.change(3))
        self.assertIs(maker.make("A"), True)
        maker.change(limit=1)
        self.assertEqual(result_of(lambda: maker.make("A")), ("long", 1))

    def test_the_least_and_the_greatest(self):
        self.assertIs(self.made("class A { init { keep a; } }", limit=1)[1], True)
        self.assertEqual(self.made("class A { init { keep a; keep b; } }", limit=1)[1], ("long", 1))
        text = "class A { init { loop { } } }"
        self.assertIs(self.made(text, picks=[1] * 1999, limit=2000)[1], True)
        self.assertEqual(self.made(text, picks=[1] * 2000, limit=2000)[1], ("long", 2000))

    def test_the_makings_of_other_objects_count(self):
        text = "class A { init { make B; make B; } } class B { init { keep b; } }"
        self.assertIs(self.made(text, limit=4)[1], True)
        self.assertEqual(self.made(text, limit=3)[1], ("long", 3))


class DepthTest(MakingCase):
    def test_members_that_execute_one_another_as_deep_as_the_limit_allows(self):
        for text in (
            "class A { init { call m; } method m { call n; } method n { call m; } }",
            "class A { init { set a; } setter a { read b; } getter b { set a; } }",
            "class A { init { make A; } }",
            "class A { init { call m; } method m { try { call m; } catch { fail; } } }",
            "class A { init { call m; } method m { either { fail; } or { if z { } else { loop { call m; } } } } }",
        ):
            maker, result = self.made(text, picks=[1] * 3000, limit=2000)
            self.assertEqual(result, ("long", 2000))
            self.assertEqual(len(list(maker.walk())), 2000)

    def test_they_come_back_from_there(self):
        # Each call takes one pick; the last one ends, or fails, or looks.
        for step, result, own in (("keep z;", True, ("y", "z")), ("fail;", False, None), ("look z;", ("gap", "z", "A", "method m", (0, 0, 0)), None)):
            text = "class A { init { call m; keep y; } method m { either { STEP } or { call m; } } }".replace("STEP", step)
            maker, told = self.made(text, picks=[1] * 997, limit=2000)
            self.assertEqual((told, maker.current_own), (result, own))
            self.assertEqual(maker.event_count, 997 * 2 + 3 + (result is True))

    def test_a_failure_that_goes_a_long_way(self):
        text = "class A { init { try { call m; } catch { keep a; } } method m { either { fail; } or { call m; } keep x; } }"
        maker, result = self.made(text, picks=[1] * 990, limit=2000)
        self.assertIs(result, True)
        self.assertEqual(maker.current_own, ("a",))

    def test_orders_of_fifty_classes(self):
        names = [first + second for first in "ABCDE" for second in "abcdefghij"]
        parts = ["class %s%s { init { super; } getter v { super; } setter w { super; } method m { super; call n; } }"
                 % (name, "" if k == 0 else "(" + names[k - 1] + ")") for k, name in enumerate(names)]
        family = Family(" ".join(parts))
        maker = Maker(family)
        self.assertIs(maker.make(names[-1]), True)
        self.assertEqual([event[1] for event in maker.walk()], names[::-1])
        self.assertIs(maker.use(("call", "m")), True)
        self.assertEqual([event[1] for event in maker.walk()], names[::-1] + names)
        self.assertIs(maker.use(("set", "w")), True)
        self.assertEqual(maker.current_own, ("w",))
        self.assertEqual(result_of(lambda: maker.use(("read", "v"))), ("gap", "v", names[0], "getter v", (0,)))
        self.assertEqual(maker.event_count, 250)
