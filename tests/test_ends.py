"""Point 15 and class Ends: the ends of a making, the fewest steps to them, and picks that lead there."""

import itertools
import random

from earlyfields.ends import Ends
from earlyfields.engine import Maker
from earlyfields.errors import BadName, Far, NoClass, NoEnd, TooMany
from earlyfields.families import Family
from tests.drawn import Drawer
from tests.helpers import STRANGE, Case, result_of


def run_of(family, owner, shared, picks, limit=2000):
    """The end of one making and its steps, or None if it comes to the limit."""
    maker = Maker(family, limit=limit, shared=shared)
    result = result_of(lambda: maker.make(owner, picks))
    many = len(list(maker.walk()))
    if result is True:
        return ("made", maker.current_own, maker.current_shared), many
    if result is False:
        return ("failed", maker.current_shared), many
    return (None if result[0] == "long" else result), many


class EndsCase(Case):
    """A test case that compares ends with what a maker does."""

    def ends(self, text, expected, owner="A", *, shared=()):
        """The making has just these ends, a dict to their steps, and the picks lead there."""
        family = Family(text)
        ends = Ends(family, owner, shared=shared)
        self.assertEqual(ends.listed(), sorted(expected), text)
        self.assertEqual({end: ends.steps_to(end) for end in ends}, expected, text)
        self.check_picks(family, owner, shared, ends)
        return ends

    def check_picks(self, family, owner, shared, ends):
        """The picks lead to each end after just its number of steps."""
        for end in ends:
            if ends.steps_to(end) > 200:
                self.fails(lambda: ends.picks_to(end), Far, steps=ends.steps_to(end))
            else:
                self.assertEqual(run_of(family, owner, shared, ends.picks_to(end)), (end, ends.steps_to(end)))

    def init(self, body, expected, more="", **given):
        """The same for an `init` with this body."""
        return self.ends("shared s; class A { init { %s } %s }" % (body, more), expected, **given)


NOTHING = ("made", (), ())


class StepsTest(EndsCase):
    def test_no_init_and_empty_ones(self):
        self.ends("class A { }", {NOTHING: 0})
        self.ends("shared s; class A { value v, s; }", {("made", ("s", "v"), ()): 0})
        self.ends("shared s; class A { value v; }", {("made", ("v",), ("s",)): 0}, shared=["s"])
        self.init("", {NOTHING: 0})
        self.ends("class A { init { } } class B(A) { }", {NOTHING: 0}, "B")

    def test_keep_and_look(self):
        self.init("keep a; keep s; keep a;", {("made", ("a",), ("s",)): 3})
        self.init("look a; keep b;", {("gap", "a", "A", "init", (0,)): 1})
        self.init("keep a; look a;", {("made", ("a",), ()): 2})
        self.init("look s;", {("gap", "s", "A", "init", (0,)): 1})
        self.init("look s; look t;", {("gap", "t", "A", "init", (1,)): 2}, shared=("s", "s"))
        self.init("look s;", {("made", ("s",), ()): 1}, "value s;")

    def test_set_and_read(self):
        self.init("set a; read a;", {("made", ("a",), ()): 2})
        self.init("read a;", {("gap", "a", "A", "init", (0,)): 1})
        self.init("set a; read b;", {("made", ("c",), ("s",)): 5}, "setter a { keep c; } getter b { keep s; look c; }")
        self.init("set a; read b;", {("made", ("a",), ()): 4}, "setter a { super; } getter b { look a; }")
        self.init("keep b; read b;", {("made", ("b",), ()): 3}, "getter b { super; }")
        self.init("read b;", {("gap", "b", "A", "getter b", (0,)): 2}, "getter b { super; }")
        self.init("set a; keep c;", {("failed", ()): 2}, "setter a { fail; }")
        self.init("keep b; read b;", {("gap", "c", "A", "getter b", (0,)): 3}, "getter b { look c; }")

    def test_call(self):
        self.init("call m; keep a;", {("made", ("a",), ()): 2})
        self.init("call m; keep a;", {("made", ("a", "b"), ()): 3}, "method m { keep b; }")
        self.init("call m; keep a;", {("failed", ("s",)): 3}, "method m { keep s; fail; }")
        self.init("call m; keep a;", {("gap", "z", "A", "method m", (0,)): 2}, "method m { look z; }")

    def test_super_and_of(self):
        two = "class A { init { keep a; } method m { fail; } setter w { keep q; } } class B(A) { %s } class C(B) { init { super; call m; keep c; } }"
        self.ends(two % "", {("failed", ()): 4}, "C")
        self.ends(two % "init { super; super; } method m { }", {("made", ("a", "c"), ()): 7}, "C")
        self.ends(two % "init { of A; fail; } method m { }", {("failed", ()): 4}, "C")
        self.ends(two % "init { set w; look q; } setter w { of A; of A; } method m { super; }", {("failed", ()): 10}, "C")
        self.ends("class A { } class B(A) { init { set w; read r; } setter w { of A; } getter r { super; } }",
                  {("gap", "r", "B", "getter r", (0,)): 4}, "B")
        self.ends("class A { } class B(A) { init { set w; keep r; read r; } setter w { of A; } getter r { of A; } }",
                  {("made", ("r", "w"), ()): 5}, "B")
        self.init("super; keep a;", {("made", ("a",), ()): 2})

    def test_super_goes_on_in_the_order_of_the_object(self):
        text = "class A { init { keep a; } } class B(A) { init { super; keep b; } } class C(A) { init { super; keep c; } } class D(B, C) { }"
        self.ends(text, {("made", ("a", "b", "c"), ()): 5}, "D")
        self.ends(text, {("made", ("a", "b"), ()): 3}, "B")

    def test_make(self):
        self.init("make B; keep a;", {("made", ("a",), ("s",)): 4}, "} class B { value q; init { keep b; keep s; }")
        self.init("make B; look b;", {("gap", "b", "A", "init", (1,)): 3}, "} class B { init { keep b; }")
        self.init("make B; keep a;", {("failed", ("s",)): 3}, "} class B { init { keep s; fail; }")
        self.init("make B; keep a;", {("gap", "b", "B", "init", (0,)): 2}, "} class B { init { look b; }")
        self.init("make B; look v;", {("made", ("v",), ()): 2}, "value v; } class B {")
        self.init("keep a; make B;", {("gap", "a", "B", "init", (0,)): 3}, "} class B { init { look a; }")
        self.init("if s { } else { keep s; make A; } keep a;", {("made", ("a",), ("s",)): 6})

    def test_fail_and_try(self):
        self.init("keep s; fail; keep s;", {("failed", ("s",)): 2})
        self.init("try { keep a; fail; keep b; } catch { keep c; }", {("made", ("a", "c"), ()): 4})
        self.init("try { keep a; } catch { keep c; } keep d;", {("made", ("a", "d"), ()): 3})
        self.init("try { fail; } catch { keep s; fail; } keep d;", {("failed", ("s",)): 4})
        self.init("try { look z; } catch { keep c; }", {("gap", "z", "A", "init", (0, 0, 0)): 2})
        self.init("try { try { fail; } catch { fail; } } catch { keep c; }", {("made", ("c",), ()): 5})
        self.init("try { call m; } catch { keep c; } fail;", {("failed", ()): 5}, "method m { fail; }")

    def test_if(self):
        self.init("if a { keep b; } else { keep c; } if c { keep a; } else { look z; }", {("made", ("a", "c"), ()): 4})
        self.init("if s { keep b; } else { keep c; }", {("made", ("b",), ("s",)): 2}, shared=["s"])
        self.init("if s { keep b; } else { keep c; }", {("made", ("b", "s"), ()): 2}, "value s;")

    def test_either(self):
        self.init("either { keep a; } or { fail; } or { look z; } or { }", {
            ("made", ("a",), ()): 2, ("failed", ()): 2, ("gap", "z", "A", "init", (0, 2, 0)): 2, NOTHING: 1})
        self.init("either { keep a; keep b; } or { keep b; keep c; keep a; } or { keep a; keep b; keep a; }", {
            ("made", ("a", "b"), ()): 3, ("made", ("a", "b", "c"), ()): 4})
        self.init("either { either { keep a; } or { keep b; } } or { keep b; } keep s;", {
            ("made", ("a",), ("s",)): 4, ("made", ("b",), ("s",)): 3})

    def test_loop(self):
        self.init("loop { }", {NOTHING: 1})
        self.init("loop { fail; }", {NOTHING: 1, ("failed", ()): 2})
        self.init("loop { if a { if b { keep c; } else { keep b; } } else { keep a; } }", {
            NOTHING: 1, ("made", ("a",), ()): 4, ("made", ("a", "b"), ()): 8, ("made", ("a", "b", "c"), ()): 12})
        self.init("loop { loop { either { keep a; } or { keep s; } } }", {
            NOTHING: 1, ("made", ("a",), ()): 6, ("made", (), ("s",)): 6, ("made", ("a",), ("s",)): 9})

    def test_blocks_around_one_another(self):
        self.init("try { loop { either { keep a; fail; } or { if a { look z; } else { keep b; } } } } catch { if b { fail; } else { keep c; } }", {
            NOTHING: 2, ("made", ("b",), ()): 6, ("made", ("a", "c"), ()): 7, ("failed", ()): 11})

    def test_makings_that_go_on_for_ever(self):
        self.init("call m;", {}, "method m { call m; }")
        self.init("make A;", {})
        self.init("call m;", {}, "method m { set w; } setter w { read r; } getter r { call m; }")
        self.init("either { call m; } or { keep a; }", {("made", ("a",), ()): 2}, "method m { keep b; call m; }")
        self.init("try { call m; } catch { } fail;", {}, "method m { loop { } call m; }")
        self.init("call m;", {("made", ("a", "b"), ()): 6}, "method m { if a { keep b; } else { keep a; call m; } }")
        self.init("call m;", {("gap", "z", "A", "method m", (1, 0, 0)): 8}, "method m { keep s; if b { look z; } else { keep b; call m; } }")

    def test_a_word_of_a_name_and_a_method(self):
        self.init("call a; look a;", {("made", ("a",), ()): 3}, "method a { keep a; }")


class Chooser(Drawer):
    """Draws more choices, so that makings have more ends."""

    def step(self, olds, classes, depth):
        """The text of a step, often one that chooses."""
        if depth < 3 and self.rng.random() < 0.35:
            return "either { %s } or { %s }" % (self.body(olds, classes, depth + 1), self.body(olds, classes, depth + 1))
        return super().step(olds, classes, depth)


class ChanceTest(EndsCase):
    def test_against_all_short_picks(self):
        rng = random.Random(41)
        kinds = []
        for _ in range(250):
            drawer = Chooser(rng, names=rng.choice(["a", "ab", "abc"]), methods=rng.choice(["m", "mn"]), looks=0.4)
            family = drawer.family(3)
            owner = rng.choice(family.classes)
            shared = [name for name in family.shared if rng.random() < 0.4]
            ends = Ends(family, owner, shared=shared)
            self.check_picks(family, owner, shared, ends)
            for picks in itertools.product((0, 1, 2), repeat=5):
                end, steps = run_of(family, owner, shared, picks, 150)
                if end is not None:
                    self.assertIn(end, ends)
                    self.assertLessEqual(ends.steps_to(end), steps)
            kinds.extend([end[0] for end in ends] if len(ends) > 1 else [])
        self.assertTrue(min([kinds.count(kind) for kind in ("made", "failed", "gap")]) > 30, kinds)

    def test_the_fewest_steps_are_found_by_some_picks(self):
        rng = random.Random(42)
        for _ in range(60):
            family = Chooser(rng, names="ab", methods="m", looks=0.4).family(2)
            found = {}
            for picks in itertools.product((0, 1, 2), repeat=6):
                end, steps = run_of(family, "A", (), picks, 60)
                if end is not None and steps < found.get(end, 61):
                    found[end] = steps
            ends = Ends(family, "A")
            for end in ends:
                if ends.steps_to(end) <= 60 and len(ends.picks_to(end)) <= 6:
                    self.assertEqual(found[end], ends.steps_to(end))


class FarTest(EndsCase):
    def test_thousands_of_steps(self):
        words = ["m" + letter for letter in "abcdefghijkl"]
        members = ["method %s { call %s; call %s; }" % (word, after, after) for word, after in zip(words, words[1:])]
        text = "class A { init { either { } or { call ma; keep a; } } %s method ml { keep b; } }" % " ".join(members)
        ends = self.ends(text, {NOTHING: 1, ("made", ("a", "b"), ()): 3 + 2 * (2 ** 11 - 1) + 2 ** 11})
        self.fails(lambda: ends.picks_to(("made", ("a", "b"), ())), Far, steps=6145)

    def test_more_steps_than_could_be_counted(self):
        words = [first + second for first in "abcdefg" for second in "abcdefghijklmn"][:95]
        members = ["method %s { call %s; call %s; call %s; }" % (word, after, after, after) for word, after in zip(words, words[1:])]
        text = "class A { init { call aa; } %s method %s { fail; } }" % (" ".join(members[:94]), words[94])
        steps = Ends(Family(text), "A").steps_to(("failed", ()))
        # The first one fails, and with it all the others: one step each.
        self.assertEqual(steps, 96)
        text = text.replace("fail;", "keep a;")
        self.assertEqual(Ends(Family(text), "A").steps_to(("made", ("a",), ())), 1 + sum([3 ** k for k in range(1, 95)]) + 3 ** 94)

    def test_200_and_201_steps(self):
        text = "class A { init { %s either { } or { fail; } } }" % ("keep a; " * 199)
        ends = self.ends(text, {("made", ("a",), ()): 200, ("failed", ()): 201})
        self.assertEqual(ends.picks_to(("made", ("a",), ())), [0])
        self.fails(lambda: ends.picks_to(("failed", ())), Far, steps=201)

    def test_members_that_execute_one_another_some_hundred_deep(self):
        words = [first + second for first in "abcdefghijklmnopqrst" for second in "abcdefghijklmn" if first + second not in ("of", "or", "if")][:279]
        members = ["method %s { call %s; }" % (word, after) for word, after in zip(words, words[1:])]
        text = "class A { init { either { call aa; } or { } } %s method %s { either { keep a; } or { fail; } } }" % (" ".join(members), words[-1])
        self.assertTrue(len(words) > 270)
        self.ends(text, {NOTHING: 1, ("made", ("a",), ()): len(words) + 3, ("failed", ()): len(words) + 3})
        text = "class A { init { call aa; } %s method %s { either { keep a; } or { fail; } } }" % (" ".join(members[-190:]), words[-1])
        text = text.replace("call aa;", "call %s;" % words[-191])
        ends = self.ends(text, {("made", ("a",), ()): 193, ("failed", ()): 193})
        self.assertEqual(ends.picks_to(("failed", ())), [1])


class ValuesTest(Case):
    def setUp(self):
        self.family = Family("shared s; class A { init { either { keep a; } or { keep s; fail; } or { look z; } } }")
        self.rows = [("failed", ("s",)), ("gap", "z", "A", "init", (0, 2, 0)), ("made", ("a",), ())]

    def test_values_that_are_ends(self):
        ends = Ends(family=self.family, owner="A", shared=())
        for end in self.rows:
            self.assertIs(end in ends, True)
            self.assertEqual(ends.steps_to(end=end), {"failed": 3, "gap": 2, "made": 2}[end[0]])
            self.assertEqual(ends.picks_to(end=end), [{"failed": 1, "gap": 2, "made": 0}[end[0]]])

    def test_values_that_are_none(self):
        ends = Ends(self.family, "A")
        for value in list(STRANGE) + [
                ["failed", ("s",)], ("failed", ["s"]), ("failed", "s"), ("failed", ()), ("failed", ("s",), ()), ("failed",), ("failed", (("s",),)),
                ("made", ("a",)), ("made", ["a"], ()), ("made", ("a",), []), ("made", (), ()), ("made", ("a",), ("s",)), ("made", ("a", "a"), ()),
                ("gap", "z", "A", "init", [0, 2, 0]), ("gap", "z", "A", "init", (False, 2, 0)), ("gap", "z", "A", "init", (0, 2, False)),
                ("gap", "z", "A", "init", (0, 2)), ("gap", "z", "A", "init"), ("gap", "z", None, "init", (0, 2, 0)),
                ("gap", "a", "A", "init", (0, 2, 0)),
                ["gap", "z", "A", "init", (0, 2, 0)], ("gap", "z", "A", "init", (0, 2, 0), ()), ("gap", ["z"], "A", "init", (0, 2, 0)),
                (None, "z", "A", "init", (0, 2, 0)), ("made", None, None), (["made"], ("a",), ()), self.rows]:
            self.assertIs(value in ends, False, value)
            for call in (ends.steps_to, ends.picks_to):
                with self.assertRaises(NoEnd) as caught:
                    call(value)
                self.assertIs(caught.exception.end, value)

    def test_true_is_no_1_in_a_path(self):
        ends = Ends(Family("class A { init { keep a; look z; } }"), "A")
        self.assertIs(("gap", "z", "A", "init", (1,)) in ends, True)
        self.assertIs(("gap", "z", "A", "init", (True,)) in ends, False)
        self.fails(lambda: ends.picks_to(("gap", "z", "A", "init", (True,))), NoEnd, end=("gap", "z", "A", "init", (True,)))

    def test_length_iteration_and_list(self):
        ends = Ends(self.family, "A")
        self.assertEqual((len(ends), list(ends), ends.listed()), (3, self.rows, self.rows))
        ends.listed().append("x")
        ends.picks_to(self.rows[0]).append("x")
        self.assertEqual((ends.listed(), ends.picks_to(self.rows[0])), (self.rows, [1]))
        self.assertEqual([end for end in ends for _ in ends], [end for end in self.rows for _ in range(3)])
        self.assertNotEqual(ends, Ends(self.family, "A"))

    def test_wrong_arguments(self):
        for value in [value for value in STRANGE] + ["B", "a", "A "]:
            self.fails(lambda: Ends(self.family, value), NoClass, name=value)
            self.fails(lambda: Ends(self.family, value, shared=["x"]), NoClass, name=value)
        for value in [value for value in STRANGE] + ["a", "z", "S", "s "]:
            self.fails(lambda: Ends(self.family, "A", shared=["s", value, None]), BadName, name=value)
            self.fails(lambda: Ends(self.family, "A", shared=("s", value)), BadName, name=value)

    def test_bounds(self):
        letters = "ABCDEFGHIJK"
        ten = " ".join(["class %s { }" % name for name in letters[:10]])
        self.assertEqual(Ends(Family(ten), "J").listed(), [NOTHING])
        eleven = " ".join(["class %s { init { %s } }" % (name, "keep a; " * 28) for name in letters])
        self.fails(lambda: Ends(Family(eleven), "A"), TooMany, what="classes")
        five = "class A { value a, b, c, d, e; init { %s } }"
        self.assertEqual(len(Ends(Family(five % ("super; " * 300)), "A")), 1)
        self.fails(lambda: Ends(Family(five % ("super; " * 301)), "A"), TooMany, what="steps")
        six = "class A { value a, b, c, d, e; promise init: f; init { %s } }"
        self.fails(lambda: Ends(Family(six % ("super; " * 301)), "A"), TooMany, what="names")
        self.fails(lambda: Ends(Family("shared s; class L { value a, b, c, d, e, f; } " + eleven), "A"), TooMany, what="classes")
        self.fails(lambda: Ends(Family(eleven), "Z"), NoClass, name="Z")
        self.fails(lambda: Ends(Family(eleven), "A", shared=["a"]), BadName, name="a")
        inner = "class A { init { %s } }" % ("either { %s } or { } " % ("keep a; " * 149) * 2)
        self.assertEqual(len(Ends(Family(inner), "A")), 2)
        self.fails(lambda: Ends(Family(inner.replace("init {", "init { loop { }", 1)), "A"), TooMany, what="steps")

    def test_an_extension_and_no_change(self):
        wide = self.family.extended("class H(A) { init { super; set y; } }")
        shared = ["s"]
        ends = Ends(wide, "H", shared=shared)
        shared.append("x")
        self.assertEqual(ends.listed(), [("failed", ("s",)), ("gap", "z", "A", "init", (0, 2, 0)), ("made", ("a", "y"), ("s",))])
        self.assertEqual(ends.listed(), Ends(Family(str(wide)), "H", shared=("s", "s")).listed())
        self.assertEqual(ends.steps_to(("made", ("a", "y"), ("s",))), 4)
