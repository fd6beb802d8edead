"""Point 24: sets of keys that suffice, and sets that show."""

import itertools
import random

from earlyfields.errors import TooMany
from earlyfields.families import Family
from earlyfields.judging import judge
from earlyfields.seals import least_seals, least_shows
from tests.drawn import Drawer
from tests.helpers import Case


def all_sets(keys):
    """All sets of some keys, as tuples."""
    return [row for size in range(len(keys) + 1) for row in itertools.combinations(keys, size)]


class SealsTest(Case):
    def seals(self, text, seals, shows):
        """These are the least sets that suffice, and those that show."""
        family = Family(text)
        self.assertEqual(least_seals(family), seals, text)
        self.assertEqual(least_shows(family), shows, text)

    def test_example(self):
        self.seals("class A { init { super; set a; } method m { look a; } }", [("init",)], [("init",)])

    def test_safe_families(self):
        self.seals("", [()], [])
        self.seals("shared s;", [()], [])
        self.seals("class A { init { set a; super; } method m { look a; } }", [()], [])

    def test_not_even_all_keys_suffice(self):
        self.seals("class A { init { look a; } }", [], [()])
        self.seals("class A { promise init: a; method m { } }", [], [()])
        self.seals("class A { init { either { look a; } or { super; } } method m { } }", [], [()])

    def test_several_least_sets(self):
        text = "class A { final init { call m; call n; keep a; } method m { } method n { } final method p { look a; } }"
        self.seals(text, [("method m", "method n")], [("method m",), ("method n",)])
        text = "class A { final init { call m; if b { call n; } else { } keep a; } method m { } method n { } final method p { look a; } }"
        self.seals(text, [("method m",)], [("method m",)])
        text = ("class A { final init { try { call m; keep a; } catch { call n; } keep a; } "
                "chained method m { super; } chained method n { super; } final method p { look a; } }")
        self.seals(text, [("method m",)], [("method m",)])
        text = ("class A { final init { try { call m; keep a; } catch { call n; } keep a; } final method m { call q; } "
                "method n { } method q { } final method p { if b { look a; } else { } } }")
        self.seals(text, [("method q",)], [("method q",)])
        text = ("class A { final init { keep b; try { call m; } catch { if a { } else { try { call n; } catch { look a; } } } keep a; } "
                "method m { } method n { } final setter a { } }")
        self.seals(text, [("method m",), ("method n",)], [("method m", "method n")])

    def test_against_judging_with_each_set(self):
        rng = random.Random(61)
        kinds = []
        while len(kinds) < 150:
            drawer = Drawer(rng, names=rng.choice(["a", "ab"]), methods=rng.choice(["m", "mn"]), looks=rng.choice([0.3, 0.8]))
            family = drawer.family(rng.choice([1, 2]))
            keys = family.all_keys()
            if len(keys) > 6:
                continue
            safe = {row: bool(judge(family, sealed=row)) for row in all_sets(keys)}
            fewest = min([len(row) for row in safe if safe[row]], default=None)
            seals = sorted([row for row in safe if safe[row] and len(row) == fewest])
            showing = [row for row in safe if not safe[tuple([key for key in keys if key not in row])]]
            shows = sorted([row for row in showing if not any([set(other) < set(row) for other in showing])])
            self.assertEqual((least_seals(family), least_shows(family)), (seals, shows), str(family))
            for row in safe:
                if safe[row]:
                    self.assertTrue(all([set(row) & set(other) for other in showing]))
            kinds.append((len(seals), len(shows)))
        self.assertTrue(len(set(kinds)) > 3 and kinds.count((1, 1)) > 5, kinds)

    def test_six_keys_and_seven(self):
        text = "class A { init { super; set a; } method m { look a; } method n { } method p { } getter b { } setter b { } %s }"
        self.seals(text % "", [("init",)], [("init",)])
        for call in (least_seals, least_shows):
            self.fails(lambda: call(Family(text % "method q { }")), TooMany, what="keys")
            self.fails(lambda: call(Family(text % "method q { call r; } value c, d, e, f, g;")), TooMany, what="keys")
            self.fails(lambda: call(Family("class A { value a, b, c, d, e, f; }")), TooMany, what="names")
            self.fails(lambda: call(Family("class A { } class B { } class C { } class D { } class E { }")), TooMany, what="orders")
            self.fails(lambda: call(Family("class A { method m { call n; call p; call q; call r; } }")), TooMany, what="methods")

    def test_what_is_returned_is_new(self):
        family = Family("class A { init { super; set a; } method m { look a; } }")
        for call in (least_seals, least_shows):
            call(family=family).clear()
            self.assertEqual(call(family), [("init",)])

    def test_an_extension(self):
        wide = Family("class A { init { super; set a; } method m { look a; } }").extended("class H { init { super; call m; } }")
        self.assertEqual(least_seals(wide), least_seals(Family(str(wide))))
        self.assertEqual(least_shows(wide), [()])
