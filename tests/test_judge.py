"""Points 3 and 18 to 20: verdicts, against a plain model, and with what shows a gap."""

import random

from earlyfields.checking import is_derivation, is_floor
from earlyfields.errors import BadKey, TooMany
from earlyfields.families import Extension, Family
from earlyfields.judging import Verdict, judge
from earlyfields.stories import is_lawful, tell
from tests.claimed import holds, number_seen
from tests.drawn import Drawer
from tests.helpers import STRANGE, Case
from tests.plain import LIFE, Plain

EARLY = "class A { init { super; set a; } method m { look a; } }"
LATE = "class A { init { set a; super; } method m { look a; } }"


class VerdictCase(Case):
    """A test case that looks at all that a verdict says."""

    def check(self, family, sealed=()):
        """The verdict about a family, each part of which is as the document says."""
        verdict = judge(family, sealed=sealed)
        self.assertIs(verdict.__class__, Verdict)
        self.assertIs(bool(verdict), verdict.steps is None)
        self.assertIs(is_floor(family, verdict.floor, sealed=sealed), True)
        self.assertEqual(verdict.floor[1], verdict.steps)
        shown = (verdict.extension, verdict.story, verdict.picks)
        if verdict.steps is None:
            self.assertEqual((str(verdict), verdict.derivation, shown), ("safe", None, (None, None, None)))
            return verdict
        self.assertEqual(str(verdict), "gap after %d" % verdict.steps)
        self.assertIs(is_derivation(family, verdict.derivation, sealed=sealed), True)
        self.assertEqual(sum([verdict.derivation[1][index][6] for index in verdict.derivation[2]]), verdict.steps)
        if verdict.steps > 20:
            self.assertEqual(shown, (None, None, None))
        else:
            self.check_shown(family, verdict, sealed)
        return verdict

    def check_shown(self, family, verdict, sealed):
        """The extension, the story and the picks show a gap after just the number of steps."""
        wide = verdict.extension
        self.assertIs(wide.__class__, Extension)
        self.assertEqual(wide.family, Family(str(family)))
        self.assertEqual(str(family.extended(wide.heir_text())), str(wide))
        for heir in wide.heirs:
            self.assertEqual(set(wide.own_keys(heir)) & set(sealed), set())
        self.assertIs(verdict.story.__class__, list)
        self.assertIs(verdict.picks.__class__, list)
        self.assertIs(is_lawful(wide, verdict.story), True)
        run = tell(wide, verdict.story, verdict.picks, limit=2000)
        self.assertEqual((run.outcome, run.old_steps(family.classes)), ("gap", verdict.steps), str(family))

    def steps(self, text, expected, sealed=()):
        """The verdict about a text has just this number."""
        self.assertEqual(self.check(Family(text), sealed).steps, expected, text)


class JudgeTest(VerdictCase):
    def test_point_18(self):
        self.steps(EARLY, 2)
        self.steps(LATE, None)

    def test_without_a_class(self):
        self.steps("", None)
        self.steps("shared s, t;", None)

    def test_a_gap_without_any_heir(self):
        self.steps("class A { init { look a; } }", 1)
        self.steps("class A { init { look a; } }", 1, ["init"])
        self.steps("class A { final init { keep b; look a; } }", 2)
        self.steps("class A { final init { look a; } } class B { final init { } }", 1)

    def test_a_gap_without_any_step_of_an_old_body(self):
        self.steps("class A { promise init: a; }", 0)
        self.steps("class A { promise init: a; }", 0, ["init"])
        self.steps("class A { promise method m: a; }", 0)
        self.steps("class A { promise method m: a; }", None, ["method m"])
        self.steps("class A { promise method m: a; final method m { } }", None)
        self.steps("class A { promise getter g: a; }", None)
        self.steps("class A { promise getter g: a; getter g { keep g; } }", None)
        self.steps("class A { promise getter g: a; promise init: g; getter g { keep g; } }", 0)
        self.steps("class A { promise setter g: a; setter g { keep g; } }", 0)
        self.steps("class A { promise setter g: a; chained setter g { keep a; } }", None)
        self.steps("class A { promise setter g: a; chained setter g { keep g; } }", 1)
        self.steps("class A { promise init: a; } class B(A) { promise init: b; value b; }", 0)

    def test_promises(self):
        self.steps("class A { promise init: a; init { super; set a; } }", None)
        self.steps("class A { promise init: a; init { super; set a; } method m { } } class B { promise init: a; }", 0)
        self.steps("class A { promise method m: a; init { super; set a; } }", 1)
        self.steps("class A { promise method m: a; init { set a; super; } }", None, ["init"])
        self.steps("class A { promise method m: a; init { super; set a; } }", None, ["init"])
        self.steps("class A { promise method m: a; init { call m; set a; } }", 1, ["init"])
        self.steps("class A { promise method m: a; value a; } ", None)
        self.steps("class A { promise init: a; init { super; super; fail; } }", None)
        self.steps("class A { promise init: a; init { try { super; } catch { } } }", 2, ["method m"])

    def test_class_values(self):
        self.steps("class A { value a; init { super; } method m { look a; } }", None)
        self.steps("class A { value a; init { super; } method m { look a; } } class B { init { call m; } }", None)
        self.steps("class A { value a; init { super; } method m { look a; } } class B { method m { look a; } }", 1)

    def test_a_setter_that_does_not_set(self):
        self.steps("class A { init { set a; super; } method m { look a; } setter a { keep a; } }", 2)
        self.steps("class A { init { set a; super; } method m { look a; } setter a { keep a; } }", None, ["setter a"])
        self.steps("class A { init { set a; super; } method m { look a; } final setter a { keep a; } }", None)
        self.steps("class A { init { set a; super; } method m { look a; } chained setter a { keep a; } }", None)
        self.steps("class A { init { keep a; super; } method m { look a; } setter a { keep a; } }", None)

    def test_what_fails_and_is_caught(self):
        self.steps("class A { init { try { call m; keep a; } catch { } look a; } method m { } }", 3)
        self.steps("class A { init { try { call m; keep a; } catch { } look a; } final method m { } }", None)
        self.steps("class A { init { call m; keep a; super; } method m { } method n { look a; } }", 2)
        self.steps("class A { init { call m; keep a; super; } method m { } method n { look a; } }", None, ["method m"])
        self.steps("class A { init { either { fail; } or { keep a; } super; } final method n { look a; } }", None)

    def test_makings_within_makings(self):
        self.steps("class A { init { make B; } } class B { init { call m; } method m { look b; } }", 2)
        self.steps("class A { final init { make B; } final method m { } } class B { final init { call m; } final method m { look b; } }", 2)
        self.steps("shared s; class A { final init { keep a; make B; if s { } else { look q; } } } class B { final init { keep s; } }", None)
        self.steps("shared s; class A { final init { keep a; try { make B; } catch { } if s { } else { look q; } } } class B { init { fail; } }", 6)
        self.steps("class A { final init { keep a; make B; } } class B { init { super; look a; } }", 2)
        self.steps("class A { final init { keep a; make B; } } class B { final init { super; if a { } else { look b; } } }", 3)

    def test_several_lives(self):
        self.steps("shared s; class A { final init { if s { look q; } else { keep s; } } final setter s { } }", 2)
        self.steps("shared s, t; class A { final init { if s { if t { } else { look q; } } else { keep t; } } final setter s { } }", 3)
        self.steps("shared s; class A { final init { if s { look q; } else { keep s; fail; } } final setter s { } }", 2)
        self.steps("shared s; class A { value s; final init { look s; if s { } else { look q; } } }", None)
        self.steps("shared s, t; class A { final init { keep s; keep t; } } class B(A) { final method m { if t { } else { look t; } } }", None)
        verdict = self.check(Family("shared s, t; class A { final init { if s { if t { } else { look q; } } else { keep t; } } final setter s { } }"))
        self.assertEqual((len(verdict.derivation[2]), [deed[0] for deed in verdict.story][:1]), (2, ["make"]))

    def test_five_shared_names(self):
        inner = "look q;"
        for name in "abcd":
            inner = "if %s { %s } else { }" % (name, inner)
        text = "shared a, b, c, d; class A { final init { if b { } else { keep a; keep b; keep c; keep d; } %s } %s }"
        setters = " ".join(["final setter %s { }" % name for name in "abcd"])
        self.steps(text % (inner, setters), 6)
        self.steps(text % (inner.replace("look q;", "keep q; look q;"), setters), None)

    def test_20_and_21_steps(self):
        for many in (18, 19, 20, 30):
            text = "class A { final init { %s look z; } }" % ("keep a; " * many)
            self.steps(text, many + 1)
        self.assertIsNotNone(judge(Family("class A { final init { %s look z; } }" % ("keep a; " * 19))).extension)
        self.assertIsNone(judge(Family("class A { final init { %s look z; } }" % ("keep a; " * 20))).extension)

    def test_very_many_steps(self):
        keys = ["method m", "method n", "method p", "method q", "setter a", "getter a", "setter b", "getter b"]
        calls = ["call n;", "call p;", "call q;", "set a;", "read a;", "set b;", "read b;", "keep c;"]
        members = ["final %s { %s }" % (key, call * 10) for key, call in zip(keys, calls)]
        verdict = self.check(Family("class A { final init { call m; look d; } %s }" % " ".join(members)))
        self.assertEqual(verdict.steps, 2 + sum([10 ** k for k in range(1, 9)]))

    def test_heirs_between_classes_that_do_not_know_one_another(self):
        self.steps("class A { init { super; set a; } final method m { look a; } } class B { init { call m; super; } }", 2)
        self.steps("class A { init { set a; super; } final method m { look a; } } class B { init { call m; super; } }", 2)
        self.steps("class A { init { set a; super; } final method m { look a; } } class B(A) { init { call m; super; } }", 2)
        self.steps("class A { final init { set a; } final method m { look a; } } class B { final init { call m; super; } }", None)

    def test_the_user(self):
        self.steps("class A { final init { } final method m { look a; } }", 1)
        self.steps("class A { final init { fail; } final method m { look a; } }", None)
        self.steps("class A { final init { keep a; } final method m { look a; } }", None)
        self.steps("class A { final init { loop { } either { keep a; } or { fail; } } final method m { look a; } }", None)
        self.steps("class A { final init { } final method m { if b { look a; } else { } } final setter b { } final setter a { } }", None)
        self.steps("class A { final init { } final method m { if b { look a; } else { } } final setter a { } }", 2)


class SealedTest(VerdictCase):
    def test_sealed_keys(self):
        for sealed, expected in ((["init"], None), (["method m"], 3), (["init", "method m"], None), ([], 2), (["method n", "getter q"], 2)):
            self.steps(EARLY, expected if sealed != ["method m"] else 2, sealed)

    def test_in_any_form(self):
        family = Family(EARLY)
        first = judge(family, sealed=("init", "init", "setter zz"))
        self.assertEqual((first.steps, first.floor), (None, judge(family, sealed=["init"]).floor))
        sealed = ["init"]
        judge(family=family, sealed=sealed)
        self.assertEqual(sealed, ["init"])

    def test_the_gap_comes_no_earlier(self):
        rng = random.Random(31)
        for _ in range(60):
            family = Drawer(rng, looks=0.5).family(2)
            sealed = [key for key in family.all_keys() if rng.random() < 0.5]
            few, many = judge(family, sealed=sealed[:1]).steps, judge(family, sealed=sealed).steps
            self.assertTrue(many is None or (few is not None and few <= many))


class ErrorsTest(VerdictCase):
    FIVE = ("class A { value a, b, c, d, e; init { call m; call n; call p; call q; } } "
            "class B(A) { } class C(B) { } class D(C) { } class E(D) { init { %s } }")

    def test_keys(self):
        for value in [value for value in STRANGE if value != "init"] + ["method", "method  m", "method super", "a", "getter", "Init", "method A"]:
            self.fails(lambda: judge(Family(EARLY), sealed=["init", value, None]), BadKey, key=value)
            self.fails(lambda: judge(Family("class A { } class B { } class C { } class D { } class E { }"), sealed=(value,)), BadKey, key=value)

    def test_just_within_the_bounds(self):
        self.steps(self.FIVE % ("super; " * 196), None)

    def test_beyond_the_bounds(self):
        def beyond(text, what):
            self.fails(lambda: judge(Family(text)), TooMany, what=what)
            self.fails(lambda: is_floor(Family(text), None), TooMany, what=what)
            self.fails(lambda: is_derivation(Family(text), None), TooMany, what=what)
        long = "super; " * 197
        beyond(self.FIVE % long, "steps")
        beyond(self.FIVE.replace("call q;", "call q; call r;") % long, "methods")
        beyond(self.FIVE.replace("e;", "e, f;").replace("call q;", "call q; call r;") % long, "names")
        beyond(self.FIVE.replace("e;", "e, f;").replace("call q;", "call q; call r;") % long + " class F { }", "classes")
        beyond("class A { } class B { } class C { } class D { } class E { }", "orders")
        beyond("class A { } class B { } class C { } class D { } class E { init { %s } }" % ("super; " * 201), "steps")
        beyond("class A { init { %s } }" % ("if a { super; } else { super; } " * 67), "steps")
        self.steps("class A { init { %s } }" % ("if a { super; } else { super; } " * 66 + "super; super;"), None)
        self.steps("class A { promise method m: a, b; promise method n: c; promise method p: d, e; method q { } }", 0)
        beyond("class A { promise method m: a, b; promise method n: c; promise method p: d, e; method q { } promise method r: a; }", "methods")
        beyond("class A { promise method m: a, b; promise getter n: c; promise method p: d, e; method q { } }", "names")

    def test_the_methods_of_sealed_keys_do_not_count(self):
        family = Family("class A { method m { } method n { } method p { } method q { } }")
        self.assertTrue(judge(family, sealed=["method r", "method s"]))


class FamilyTest(VerdictCase):
    def test_an_extension_has_old_classes_only(self):
        wide = Family(LATE).extended("class H(A) { method m { super; } init { super; call m; } }")
        verdict = self.check(wide)
        alone = judge(Family(str(wide)))
        self.assertEqual((verdict.steps, verdict.floor), (alone.steps, alone.floor))
        wide = Family("class A { } ").extended("class H(A) { init { super; try { call m; } catch { } set b; } } class J(A) { method m { super; } }")
        self.check(wide)

    def test_an_extension_that_shows_a_gap(self):
        wide = Family(EARLY).extended("class H { init { super; call m; } }")
        verdict = self.check(wide)
        self.assertEqual(verdict.steps, 2)
        self.assertEqual(verdict.extension.family, Family(str(wide)))
        self.assertNotIn("H", verdict.extension.heirs)

    def test_equal_calls(self):
        rng = random.Random(32)
        for _ in range(25):
            family = Drawer(rng, names="abc", methods="mn", looks=0.5).family(3)
            first, second = judge(family), judge(Family(str(family)))
            self.assertEqual(vars(first), vars(second))
            self.assertNotEqual(first, second)
            if first.story is not None:
                first.story.append("x")
                first.picks.append("x")
                self.assertEqual(vars(judge(family)), vars(second))

    def test_the_order_of_members_and_steps_of_a_text_means_nothing(self):
        one = judge(Family("shared s, b; class A { method m { look a; } promise init: b, a; value c, b; init { super; set a; } }"))
        two = judge(Family("class A { value b; init { super; set a; } promise init: a; method m { look a; } value c; promise init: b; } "
                           "shared b; shared s;"))
        self.assertEqual(vars(one), vars(two))

    def test_floors_and_derivations_of_an_extension(self):
        wide = Family(EARLY).extended("class H(A) { init { super; call m; } }")
        verdict, alone = judge(wide), judge(Family(str(wide)))
        self.assertEqual(vars(verdict), vars(alone))
        for family in (wide, Family(str(wide))):
            self.assertIs(is_floor(family, verdict.floor), True)
            self.assertIs(is_derivation(family, verdict.derivation), True)
        self.assertIs(is_floor(Family(EARLY), verdict.floor), False)

    def test_the_order_means_nothing(self):
        rng = random.Random(33)
        for _ in range(60):
            family = Drawer(rng, names="abc", methods="mn", looks=0.4).family(3)
            lines = [line for line in str(family).split("\n") if line.startswith("class")]
            free = [line for line in lines if "(" not in line.partition("{")[0]]
            ahead = [line for line in str(family).split("\n") if line not in lines]
            other = "\n".join(ahead + free[::-1] + [line for line in lines if line not in free])
            self.assertEqual(judge(Family(other)).steps, judge(family).steps)
            names = str.maketrans("abcmn", "cabnm")
            text = " ".join([word.translate(names) if len(word.rstrip(";,:")) == 1 and word.islower() else word for word in str(family).split()])
            self.assertEqual(judge(Family(text)).steps, judge(family).steps, text)


def rows_of(floor):
    """The rows of a floor with their costs, as those of the plain model."""
    rows = {}
    for world, table in floor[3]:
        for place, key, own, shared, ends, gap in table:
            costs = {(kind, frozenset(names), frozenset(commons)): cost for kind, names, commons, cost in ends}
            rows[world, place, key, frozenset(own), frozenset(shared)] = costs if gap is None else {**costs, "gap": gap}
    return rows


def plain_rows(plain):
    """The rows of the plain model but for those of lives, without the places of gaps."""
    rows = {}
    for row, ends in plain.ends.items():
        gaps = [cost for end, cost in ends.items() if end[0] == "gap"]
        costs = {end: cost for end, cost in ends.items() if end[0] != "gap"}
        if row[1] != LIFE:
            rows[row] = {**costs, "gap": min(gaps)} if gaps else costs
    return rows


class PlainTest(VerdictCase):
    def test_against_the_plain_model(self):
        rng = random.Random(34)
        numbers = []
        for _ in range(220):
            drawer = Drawer(rng, names=rng.choice(["a", "ab", "abc"]), methods=rng.choice(["", "m", "mn"]), looks=rng.choice([0.1, 0.4]))
            family = drawer.family(rng.choice([1, 2, 2, 3]))
            sealed = [key for key in family.all_keys() if rng.random() < 0.15]
            verdict, plain = self.check(family, sealed), Plain(family, sealed)
            self.assertEqual(verdict.steps, plain.gap, str(family))
            self.assertEqual({frozenset(shared): cost for shared, cost in verdict.floor[2]}, plain.lives)
            self.assertEqual(rows_of(verdict.floor), plain_rows(plain), str(family))
            numbers.append(verdict.steps)
        self.assertTrue(numbers.count(None) > 80 and len(set(numbers)) > 5, numbers)

    def test_against_the_plain_checks(self):
        rng = random.Random(35)
        for _ in range(60):
            family = Drawer(rng, names="ab", methods="m", looks=0.5).family(2)
            sealed = [key for key in family.all_keys() if rng.random() < 0.15]
            verdict = judge(family, sealed=sealed)
            self.assertIs(holds(family, verdict.floor, sealed), True)
            if not verdict:
                self.assertEqual(number_seen(family, verdict.derivation, sealed), verdict.steps)

    def test_against_drawn_extensions(self):
        rng = random.Random(36)
        outcomes, tight = [], 0
        for _ in range(70):
            drawer = Drawer(rng, names=rng.choice(["a", "ab"]), methods="m", looks=rng.choice([0.2, 0.5]))
            family = drawer.family(2)
            sealed = [key for key in family.all_keys() if rng.random() < 0.15]
            steps = judge(family, sealed=sealed).steps
            for _ in range(4):
                wide = drawer.extension(family, sealed)
                for _ in range(4):
                    run = tell(wide, drawer.story(wide), [rng.choice([0, 1, 1, 2]) for _ in range(30)], limit=300)
                    outcomes.append(run.outcome)
                    if run.outcome == "gap":
                        self.assertTrue(steps is not None and run.old_steps(family.classes) >= steps, str(wide))
                        tight += run.old_steps(family.classes) == steps
        self.assertTrue(outcomes.count("gap") > 50 and tight > 20, (outcomes.count("gap"), tight))

    def test_what_shows_a_gap_in_families_with_much_to_do(self):
        rng = random.Random(37)
        for _ in range(120):
            drawer = Drawer(rng, names="abcd", methods=rng.choice(["m", "mnp"]), looks=rng.choice([0.05, 0.1]))
            self.check(drawer.family(3))
