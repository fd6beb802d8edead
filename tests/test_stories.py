"""Point 14: stories, runs of them, and lawful stories."""

from earlyfields.errors import BadDeed, BadLimit
from earlyfields.families import Family
from earlyfields.stories import Run, is_lawful, tell
from tests.helpers import Case, words_of
from tests.test_makers import NO_DEEDS as NO_DEEDS_OF_MAKERS
from tests.test_makers import NO_LIMITS

TEXT = """
    shared s, t;
    class A { init { keep a; } method m { keep b; } method bad { keep s; fail; } method gap { keep t; look z; } method deep { call deep; } }
    class B(A) { init { super; keep c; fail; } }
    class C { init { either { keep c; } or { keep d; } or { fail; } } method pick { either { keep a; } or { keep b; } or { look z; } } }
    class D { }
"""
# Here D is a class.
NO_DEEDS = [value for value in NO_DEEDS_OF_MAKERS if value != ("make", "D")] + [("make", "E")]


class TellTest(Case):
    def setUp(self):
        self.family = Family(TEXT)

    def check(self, run, outcome, at, words, *, gap=None, failed=(), own=None, shared=()):
        """A run has just these values."""
        self.assertIs(run.__class__, Run)
        self.assertEqual((run.outcome, run.at, run.gap), (outcome, at, gap))
        self.assertEqual((words_of(run.events), run.steps), (words, len(words.split())))
        self.assertEqual((run.failed, run.own, run.shared), (failed, own, shared))
        for name in ("events", "failed", "shared"):
            self.assertIs(vars(run)[name].__class__, tuple)

    def test_the_empty_story(self):
        for story in ([], ()):
            self.check(tell(self.family, story), "done", 0, "")
            self.check(tell(Family(""), story), "done", 0, "")

    def test_done(self):
        run = tell(self.family, [("make", "A"), ("call", "m"), ("set", "s"), ("set", "unknown"), ("read", "unknown")])
        self.check(run, "done", 5, "keep keep", own=("a", "b", "unknown"), shared=("s",))
        self.assertEqual(run.events, ((0, "A", "init", (0,), "keep"), (0, "A", "method m", (0,), "keep")))

    def test_a_tuple_and_names(self):
        run = tell(family=self.family, story=(("make", "C"), ("make", "C")), picks=(1, 0), limit=10)
        self.check(run, "done", 2, "either keep either keep", own=("c",))
        self.assertEqual([event[0] for event in run.events], [0, 0, 1, 1])

    def test_gap(self):
        run = tell(self.family, [("make", "A"), ("call", "m"), ("call", "gap"), ("make", "A")])
        self.check(run, "gap", 2, "keep keep keep look", gap=("z", "A", "method gap", (1,)), shared=("t",))

    def test_a_gap_in_a_read_itself(self):
        run = tell(self.family, [("make", "D"), ("make", "A"), ("read", "a"), ("read", "z"), ("make", "D")])
        self.check(run, "gap", 3, "keep", gap=("z", None, None, ()))

    def test_a_gap_in_a_making(self):
        run = tell(Family("class A { init { look q; } }"), [("make", "A")])
        self.check(run, "gap", 0, "look", gap=("q", "A", "init", (0,)))

    def test_long(self):
        run = tell(self.family, [("make", "A"), ("call", "bad"), ("call", "deep"), ("make", "A")], limit=20)
        self.check(run, "long", 2, "keep keep fail" + " call" * 17, failed=(1,), shared=("s",))
        run = tell(self.family, [("make", "A"), ("call", "deep")])
        self.check(run, "long", 1, "keep" + " call" * 199)

    def test_the_limit_is_for_the_whole_story(self):
        story = [("make", "A"), ("call", "m"), ("make", "D"), ("make", "A")]
        self.check(tell(self.family, story, limit=3), "done", 4, "keep keep keep", own=("a",))
        self.check(tell(self.family, story, limit=2), "long", 3, "keep keep")
        self.check(tell(self.family, story, limit=1), "long", 1, "keep")
        story += [("set", "x"), ("read", "a"), ("call", "q"), ("make", "D")]
        self.check(tell(self.family, story, limit=3), "done", 8, "keep keep keep", own=())

    def test_the_least_and_the_greatest_limit(self):
        family = Family("class A { init { loop { } } }")
        self.assertEqual(tell(family, [("make", "A")], [1] * 1999, limit=2000).outcome, "done")
        self.assertEqual(tell(family, [("make", "A")], [1] * 2000, limit=2000).outcome, "long")
        self.assertEqual(tell(family, [("make", "A")], limit=1).outcome, "done")
        run = tell(family, [("make", "A"), ("make", "A")], [1] * 1000, limit=1001)
        self.assertEqual((run.outcome, run.at, run.steps), ("long", 1, 1001))
        self.assertEqual(tell(Family("class A { init { call m; } method m { call m; } }"), [("make", "A")], limit=2000).steps, 2000)

    def test_deeds_without_an_object_are_left_out(self):
        story = [("call", "gap"), ("set", "s"), ("read", "z"), ("make", "B"), ("call", "bad"), ("read", "z"), ("set", "a"),
                 ("make", "A"), ("call", "m")]
        self.check(tell(self.family, story), "done", 9, "super keep keep fail keep keep", failed=(3,), own=("a", "b"))
        self.check(tell(self.family, story[:3]), "done", 3, "")
        self.check(tell(self.family, story[:4]), "done", 4, "super keep keep fail", failed=(3,))

    def test_they_take_no_pick(self):
        run = tell(self.family, [("call", "pick"), ("make", "C"), ("call", "pick")], [1, 0])
        self.check(run, "done", 3, "either keep either keep", own=("a", "d"))

    def test_failed_deeds_do_not_end_a_story(self):
        story = [("make", "A"), ("call", "bad"), ("call", "m"), ("call", "bad"), ("make", "B"), ("call", "bad"), ("make", "D"), ("set", "q")]
        self.check(tell(self.family, story), "done", 8, "keep keep fail keep keep fail super keep keep fail",
                   failed=(1, 3, 4), own=("q",), shared=("s",))

    def test_picks_run_through_the_whole_story(self):
        story = [("make", "C"), ("call", "pick"), ("make", "C"), ("call", "pick")]
        self.check(tell(self.family, story, [1, 0, 0, 1]), "done", 4, "either keep " * 3 + "either keep", own=("b", "c"))
        self.check(tell(self.family, story, [1, 1, 2, 1, 1]), "done", 4, "either keep either keep either fail", failed=(2,))
        self.check(tell(self.family, story, (0, -1)), "gap", 1, "either keep either look", gap=("z", "C", "method pick", (0, 2, 0)))
        self.check(tell(self.family, story, [10 ** 29, -(10 ** 29)]), "gap", 1, "either keep either look", gap=("z", "C", "method pick", (0, 2, 0)))
        self.check(tell(self.family, story), "done", 4, "either keep " * 3 + "either keep", own=("a", "c"))

    def test_arguments_stay_as_they_are(self):
        story, picks = [("make", "C"), ("call", "pick")], [1, 2]
        run = tell(self.family, story, picks)
        self.assertEqual((story, picks), ([("make", "C"), ("call", "pick")], [1, 2]))
        story.clear()
        picks.clear()
        self.assertEqual((run.at, run.outcome), (1, "gap"))

    def test_a_new_maker_each_time(self):
        story = [("make", "A"), ("call", "bad")]
        for _ in range(2):
            self.check(tell(self.family, story), "done", 2, "keep keep fail", failed=(1,), own=("a",), shared=("s",))
        self.assertEqual(tell(self.family, story).events, tell(self.family, story).events)

    def test_old_steps(self):
        wide = Family("class A { init { super; set a; } method m { look a; } }").extended("class H { init { super; call m; } } class J(A, H) { }")
        run = tell(wide, [("make", "J")])
        self.check(run, "gap", 0, "super super call look", gap=("a", "A", "method m", (0,)))
        for classes, many in (([], 0), (["A"], 2), (("A",), 2), (["H"], 2), (["J"], 0), (("A", "H"), 4), (["A", "A"], 2), (["Z", "A"], 2)):
            self.assertEqual(run.old_steps(classes), many)
        self.assertEqual(run.old_steps(classes=["A"]), 2)
        self.assertEqual(tell(wide, []).old_steps(["A"]), 0)
        self.assertEqual(tell(wide, [("make", "A"), ("call", "m")], limit=2).old_steps(["A"]), 2)

    def test_entries_that_are_no_deeds(self):
        for value in NO_DEEDS:
            self.fails(lambda: tell(self.family, [value]), BadDeed, at=0)
            self.fails(lambda: tell(self.family, (("make", "A"), ("call", "gap"), value, value)), BadDeed, at=2)
        self.fails(lambda: tell(Family(""), [("make", "A")]), BadDeed, at=0)

    def test_limits_that_are_none(self):
        for value in NO_LIMITS:
            self.fails(lambda: tell(self.family, [], limit=value), BadLimit, value=value)

    def test_a_deed_comes_ahead_of_the_limit(self):
        self.fails(lambda: tell(self.family, [("make", "A"), None], limit=0), BadDeed, at=1)
        self.fails(lambda: tell(self.family, [("make", "A")], limit=0), BadLimit, value=0)

    def test_by_name_only(self):
        with self.assertRaises(TypeError):
            tell(self.family, [], [], 200)

    def test_the_attributes_are_set_on_each_run(self):
        for story in ([], [("make", "A"), ("call", "gap")], [("make", "A"), ("call", "deep")]):
            run = tell(self.family, story)
            self.assertLessEqual({"outcome", "at", "gap", "events", "steps", "failed", "own", "shared"}, set(vars(run)))


class LawfulTest(Case):
    def setUp(self):
        self.family = Family("""
            class A { promise init: a; promise method m: m; } class B(A) { promise init: b; } class C(A) { promise init: c; }
            class D(B, C) { promise init: d; init { fail; } } class E { promise getter a: a; }
        """)

    def test_without_a_read(self):
        for story in ([], (), [("call", "m")], [("set", "a"), ("call", "m"), ("make", "E"), ("set", "q")], (("make", "A"),)):
            self.assertIs(is_lawful(self.family, story), True)

    def test_what_the_classes_of_the_order_promise(self):
        for owner, names in (("A", "a"), ("B", "ab"), ("C", "ac"), ("D", "abcd"), ("E", "")):
            for name in "abcdmz":
                story = [("make", owner), ("read", name)]
                self.assertIs(is_lawful(self.family, story), name in names, (owner, name))
                self.assertIs(is_lawful(self.family, tuple(story)), name in names)

    def test_a_making_stands_ahead(self):
        self.assertIs(is_lawful(self.family, [("read", "a")]), False)
        self.assertIs(is_lawful(self.family, [("read", "a"), ("make", "A")]), False)
        self.assertIs(is_lawful(self.family, [("make", "A"), ("call", "q"), ("set", "z"), ("read", "a"), ("read", "a")]), True)

    def test_the_last_making_counts(self):
        for first, last, name, lawful in (("A", "B", "b", True), ("B", "A", "b", False), ("E", "D", "c", True), ("D", "E", "a", False)):
            story = [("make", first), ("make", last), ("read", name)]
            self.assertIs(is_lawful(self.family, story), lawful)
            self.assertIs(is_lawful(self.family, story[1:] + [("make", first)]), lawful)

    def test_each_read_counts(self):
        self.assertIs(is_lawful(self.family, [("make", "A"), ("read", "a"), ("make", "E"), ("read", "a")]), False)
        self.assertIs(is_lawful(self.family, [("make", "A"), ("read", "b"), ("make", "B"), ("read", "b")]), False)
        self.assertIs(is_lawful(self.family, [("make", "A"), ("read", "a"), ("make", "B"), ("read", "b")]), True)

    def test_a_making_that_fails_counts(self):
        self.assertIs(is_lawful(self.family, [("make", "D"), ("read", "d")]), True)
        self.assertEqual(tell(self.family, [("make", "D"), ("read", "d")]).failed, (0,))

    def test_entries_that_are_no_deeds(self):
        for value in [value for value in NO_DEEDS if value != ("make", "E")] + [("make", "F")]:
            self.assertIs(is_lawful(self.family, [value]), False, value)
            self.assertIs(is_lawful(self.family, (("make", "A"), ("read", "a"), value)), False, value)
            self.assertIs(is_lawful(self.family, [value, ("read", "a")]), False, value)

    def test_by_name(self):
        self.assertIs(is_lawful(family=self.family, story=[("make", "A")]), True)

    def test_an_extension(self):
        wide = Family("class A { promise init: a; }").extended("class H(A) { } class J { }")
        self.assertIs(is_lawful(wide, [("make", "H"), ("read", "a")]), True)
        self.assertIs(is_lawful(wide, [("make", "J"), ("read", "a")]), False)
        self.assertIs(is_lawful(wide.family, [("make", "H")]), False)
