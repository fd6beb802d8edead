"""Point 23: names that are sure, and keys that are early."""

import random

from earlyfields.errors import BadKey, NoClass, TooMany
from earlyfields.families import Family
from earlyfields.judging import judge
from earlyfields.reliance import early, sure
from tests.drawn import Drawer
from tests.helpers import STRANGE, Case
from tests.plain import USER, Plain
from tests.reference import Reference


class Making(Plain):
    """Rows that are executed while objects are made, from given shared names that have a value."""

    def __init__(self, family, sealed, lives):
        self.given = lives
        super().__init__(family, sealed)

    def solve(self):
        """Looks at all rows, from those of each `init` on."""
        for world in self.orders:
            place = self.first(world, "init")
            if place is not None:
                for shared in self.given:
                    self.of((world, place, "init", self.birth(world), shared))
        super().solve()

    def life(self, world, shared):
        """Lives are no part of this."""
        return {}


def states_of(plain, owner):
    """For each key the states in which members of heirs of a class begin a step; the user's are those of None."""
    begun = {}
    for row, ends in plain.ends.items():
        world, place, key, own, shared = row
        if isinstance(world, tuple) and owner in world and isinstance(place, int):
            if place == USER or 0 <= place <= world.index(owner):
                # Each state in which an act ends is one from which another step may be done.
                states = [end[1:] for end in ends if end[0] == "end"]
                begun.setdefault(None if place == USER else key, []).extend(states)
    return {key: states for key, states in begun.items() if states}


class SureTest(Case):
    def sure(self, text, expected, owner="A", sealed=(), early_keys=None):
        """Just these names are sure, and perhaps just these keys early."""
        family = Family(text)
        result = sure(family, owner, sealed=sealed)
        self.assertEqual(result, expected, text)
        self.assertEqual(list(result), sorted(expected))
        if early_keys is not None:
            self.assertEqual(early(family, owner, sealed=sealed), early_keys, text)

    def test_examples(self):
        self.sure("class A { init { set a; call m; super; } method m { } }", {"init": ("a",), "method m": ("a",)}, early_keys=["init", "method m"])
        self.sure("class A { init { super; set a; } method m { } }", {"init": ("a",), "method m": ()}, early_keys=["init", "method m"])
        self.sure("class A { init { set a; } method m { } }", {"init": ("a",), "method m": ("a",)}, early_keys=["init", "method m"])

    def test_keys_that_no_heir_can_have(self):
        self.sure("class A { final init { set a; } final method m { } method n { } }", {"init": ("a",), "method n": ("a",)}, early_keys=[])
        self.sure("class A { final init { fail; } final method m { } method n { } }", {}, early_keys=[])
        self.sure("class A { final init { loop { fail; } set a; } getter g { } final setter g { } }", {"init": ("a",)}, early_keys=[])
        self.sure("class A { final init { set a; } } class B { getter g { } }", {"init": ("a",)}, early_keys=[])
        self.sure("class A { final init { set a; read g; } getter g { } } class B { init { super; } }",
                  {"getter g": ("a",), "init": ("a",)}, early_keys=["getter g"])

    def test_members_that_no_step_can_begin(self):
        self.sure("class A { chained method m { fail; } init { super; } }", {"init": ()}, early_keys=["init"])
        self.sure("class A { chained method m { call m; } final init { set a; } }", {"init": ("a",)}, early_keys=[])
        self.sure("class A { chained method m { super; fail; } final init { set a; call m; } }", {}, early_keys=[])
        self.sure("class A { chained method m { super; keep b; } final init { set a; call m; } }",
                  {"init": ("a", "b"), "method m": ("a", "b")}, early_keys=["method m"])
        self.sure("class A { method m { fail; } final init { set a; try { call m; } catch { } } }",
                  {"init": ("a",), "method m": ("a",)}, early_keys=["method m"])
        self.sure("class A { init { fail; } }", {}, early_keys=[])

    def test_init(self):
        self.sure("class A { init { set a; } }", {"init": ("a",)}, sealed=["init"], early_keys=[])
        self.sure("class A { final init { set a; call m; set b; } }", {"init": ("a", "b"), "method m": ("a",)}, early_keys=["method m"])
        self.sure("class A { }", {"init": ()}, early_keys=["init"])
        self.sure("class A { }", {"init": ()}, sealed=["init"], early_keys=[])
        self.sure("class A { value a; }", {"init": ("a",)}, sealed=["init"])
        self.sure("class A { init { either { set a; } or { fail; } } }", {"init": ("a",)})
        self.sure("class A { init { either { set a; } or { set a; set b; } } method m { } }", {"init": ("a",), "method m": ("a",)})

    def test_of_other_classes(self):
        text = "class A { value v; init { set a; super; } } class B(A) { init { set b; super; } } class C { }"
        self.sure(text, {"init": ("a", "v")})
        self.sure(text, {"init": ("a", "b", "v")}, "B")
        self.sure(text, {"init": ()}, "C")
        # With C ahead, which does not go on, the steps of A are not executed.
        self.sure(text.replace("C { }", "C { init { } }"), {"init": ("v",)})

    def test_the_first_super_does_not_count(self):
        self.sure("class A { chained method m { keep a; } final init { super; call m; } }", {"init": ("a",), "method m": ("a",)})
        self.sure("class A { method m { keep a; } final init { super; call m; } }", {"init": (), "method m": ()})

    def test_steps_behind_the_first_gap(self):
        self.sure("class A { final init { look a; call m; } method m { } }", {}, early_keys=[])
        self.sure("class A { final init { either { look a; } or { set a; } call m; } method m { } }", {"init": ("a",), "method m": ("a",)})
        self.sure("class A { final init { call m; } method m { } final method n { look a; } }", {"init": (), "method m": ()})

    def test_shared_names_that_some_life_before_gave_a_value(self):
        self.sure("shared s; class A { final init { if s { set a; call m; } else { fail; } } method m { } final setter s { } }",
                  {"init": ("a", "s"), "method m": ("a", "s")}, early_keys=["method m"])
        self.sure("shared s; class A { final init { if s { call m; } else { fail; } } method m { } }", {"init": ("s",), "method m": ("s",)})
        self.sure("shared s; class A { value s; final init { call m; } method m { } }", {"init": ("s",), "method m": ("s",)})
        self.sure("shared s; class A { final init { if s { } else { call m; fail; } } method m { } }",
                  {"init": ("s",), "method m": ()}, early_keys=["method m"])

    def test_sealed_keys(self):
        text = "class A { init { super; set a; } method m { } }"
        self.sure(text, {"init": ("a",), "method m": ("a",)}, sealed=["init"], early_keys=[])
        self.sure(text, {"init": ("a",)}, sealed=["method m"], early_keys=["init"])
        self.sure(text, {"init": ("a",)}, sealed=("method m", "init", "init", "getter q"), early_keys=[])

    def test_wrong_arguments(self):
        family = Family("class A { init { } }")
        for call in (sure, early):
            for value in list(STRANGE) + ["B", "a"]:
                self.fails(lambda: call(family, value), NoClass, name=value)
                self.fails(lambda: call(family, value, sealed=["x"]), NoClass, name=value)
            for value in STRANGE:
                if value != "init":
                    self.fails(lambda: call(family, "A", sealed=["init", value]), BadKey, key=value)
            big = Family("class A { value a, b, c, d, e, f; }")
            self.fails(lambda: call(big, "A"), TooMany, what="names")
            self.fails(lambda: call(big, "A", sealed=["x"]), BadKey, key="x")
            self.fails(lambda: call(big, "B", sealed=["x"]), NoClass, name="B")
            self.fails(lambda: call(Family("class A { } class B { } class C { } class D { } class E { }"), "A"), TooMany, what="orders")
            wide = Family("class A { init { set a; } }").extended("class H(A) { init { super; } }")
            self.assertEqual(call(family=wide, owner="H", sealed=()), call(Family(str(wide)), "H"))

    def test_what_is_returned_is_new(self):
        family = Family("class A { init { set a; } }")
        sure(family, "A").clear()
        early(family, "A").clear()
        self.assertEqual((sure(family, "A"), early(family, "A")), ({"init": ("a",)}, ["init"]))

    def test_against_the_plain_model(self):
        rng = random.Random(51)
        seen = []
        for _ in range(120):
            family = Drawer(rng, names=rng.choice(["a", "ab"]), methods=rng.choice(["m", "mn"]), looks=0.2).family(rng.choice([1, 2, 2]))
            sealed = [key for key in family.all_keys() if rng.random() < 0.15]
            plain = Plain(family, sealed)
            making = Making(family, sealed, plain.lives)
            for owner in family.classes:
                begun = states_of(plain, owner)
                if None in begun:
                    begun["init"] = begun.get("init", []) + begun.pop(None)
                expected = {key: tuple([name for name in family.names if all([plain.known(name, state) for state in states])])
                            for key, states in begun.items()}
                self.assertEqual(sure(family, owner, sealed=sealed), expected, (str(family), sealed))
                self.assertEqual(early(family, owner, sealed=sealed), sorted(states_of(making, owner)), (str(family), sealed))
                seen.extend(expected.values())
        self.assertTrue(len([names for names in seen if names]) > 40 and seen.count(()) > 40)

    def test_sure_names_may_be_promised(self):
        rng = random.Random(52)
        answers = []
        for _ in range(80):
            family = Drawer(rng, names="ab", methods="m", looks=0.1).family(2)
            verdict = judge(family)
            for owner in family.classes:
                result = sure(family, owner)
                for key in family.all_keys():
                    for name in family.names:
                        if "getter " + name in family.all_keys():
                            continue
                        promised = judge(family.promised(owner, key, [name]))
                        safe = key not in result or name in result[key]
                        if safe:
                            self.assertEqual(promised.steps, verdict.steps)
                        elif verdict:
                            # Then a member of an heir may read the name without the value, and the extension shows it.
                            self.assertIsNotNone(promised.steps)
                        answers.append(safe)
        self.assertTrue(answers.count(True) > 50 and answers.count(False) > 50)


class Recorder(Reference):
    """Executes a story, and notes the names that have a value wherever a step or a deed begins."""

    def __init__(self, family):
        super().__init__(family)
        self.notes, self.making = [], False

    def do(self, deed):
        """A deed, which counts as a step of `init`."""
        self.making = deed[0] == "make"
        if not self.making:
            self.notes.append((self.thing.kind, None, None, False, False, self.thing.own | self.common))
        return super().do(deed)

    def note(self, thing, event):
        """A step."""
        number, owner, key, path, word = event
        first = (path, word) == ((0,), "super")
        self.notes.append((thing.kind, owner, key, first, self.making, thing.own | self.common))


class StoriesTest(Case):
    def test_against_drawn_extensions(self):
        rng = random.Random(53)
        noted = []
        for _ in range(50):
            drawer = Drawer(rng, names="ab", methods="m", looks=0.2)
            family = drawer.family(2)
            sealed = [key for key in family.all_keys() if rng.random() < 0.15]
            results = {owner: (sure(family, owner, sealed=sealed), early(family, owner, sealed=sealed)) for owner in family.classes}
            for _ in range(5):
                wide = drawer.extension(family, sealed)
                for _ in range(3):
                    noted += self.check_story(rng, drawer, family, wide, results)
        self.assertTrue(len(noted) > 500 and noted.count(True) > 100)

    def check_story(self, rng, drawer, family, wide, results):
        """Each step of a member of an heir has the names that are sure for it."""
        recorder = Recorder(wide)
        recorder.begin([rng.choice([0, 1, 1, 2]) for _ in range(20)], 80)
        for deed in drawer.story(wide):
            if deed[0] != "make" and recorder.thing is None:
                continue
            if recorder.do(deed) not in (True, False):
                break
        noted = []
        for kind, owner, key, first, making, names in recorder.notes:
            for old in family.classes:
                if owner is None and old in wide.order(kind):
                    self.assertLessEqual(set(results[old][0]["init"]), names)
                if owner in wide.heirs and old in wide.order(owner) and not first and key in family.all_keys():
                    self.assertLessEqual(set(results[old][0][key]), names)
                    if making:
                        self.assertIn(key, results[old][1])
                    noted.append(making)
        return noted
