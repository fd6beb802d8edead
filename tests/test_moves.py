"""Point 25: moves of the steps of `init` bodies."""

import itertools
import math
import random

from earlyfields.errors import BadKey, BadOrder, EarlyError, NoClass, NotChained, TooMany
from earlyfields.families import Family
from earlyfields.judging import judge
from earlyfields.moves import Move, least_move, moved
from earlyfields.orders import old_orders
from tests.drawn import Drawer
from tests.helpers import STRANGE, Case

TWO = "class A { init { super; set a; call m; } method m { look a; } } class B(A) { method m { super; } } class C(A) { init { super; set c; } }"


def inversions_of(order):
    """How many pairs stand in descending order."""
    return len([1 for at in range(len(order)) for before in range(at) if order[before] > order[at]])


class MovedTest(Case):
    def test_the_steps_of_a_body(self):
        family = Family("class A { value b; promise init: b; chained init { super; set a; } method m { super; set a; } }")
        self.assertEqual(str(moved(family, {"A": (1, 0)})),
                         "class A { value b; promise init: b; chained init { set a; super; } method m { super; set a; } }")
        self.assertEqual(moved(family=family, changes={"A": (0, 1)}), family)
        self.assertEqual(moved(family, {}), family)
        self.assertIs(moved(family, {}).__class__, Family)

    def test_blocks_stay_as_they_are(self):
        family = Family("shared s; class A { init { if a { super; fail; } else { } try { set a; } catch { fail; super; } super; super; } }")
        self.assertEqual(str(moved(family, {"A": (3, 1, 0, 2)})), "shared s;\nclass A { init { super; try { set a; } catch { fail; super; } "
                         "if a { super; fail; } else { } super; } }")

    def test_several_classes_in_any_order(self):
        family = Family(TWO)
        one, two = moved(family, {"A": (1, 0, 2), "C": (1, 0)}), moved(family, {"C": (1, 0), "A": (1, 0, 2)})
        self.assertEqual(one, two)
        self.assertEqual((one.body("A", "init"), one.body("C", "init")), ((("set", "a"), ("super",), ("call", "m")), (("set", "c"), ("super",))))
        self.assertEqual(family, Family(TWO))
        changes = {"A": (1, 0, 2)}
        moved(family, changes)
        self.assertEqual(changes, {"A": (1, 0, 2)})

    def test_empty_bodies(self):
        family = Family("class A { init { } }")
        self.assertEqual(moved(family, {"A": ()}), family)
        self.fails(lambda: moved(family, {"A": (0,)}), BadOrder, value=(0,))

    def test_no_class_with_an_init(self):
        family = Family(TWO)
        for changes, name in (({"B": ()}, "B"), ({"Z": ()}, "Z"), ({"Z": (), "B": (), "A": None}, "B"), ({"init": ()}, "init"),
                              ({"a": (), "": (), "A": ()}, "")):
            self.fails(lambda: moved(family, changes), NoClass, name=name)

    def test_no_permutations(self):
        family = Family(TWO)
        for value in [value for value in STRANGE] + [
                (0, 1), (0, 1, 2, 3), (0, 1, 1), (0, 1, 3), (1, 2, 3), (-1, 0, 1), [0, 1, 2], (0, True, 2), (False, 1, 2), (0, 1, "2"), (0, 1, None),
                ((0,), 1, 2), (0, (1, 2)), "012", {0: 0, 1: 1, 2: 2}, (0, [1], 2)]:
            with self.assertRaises(BadOrder) as caught:
                moved(family, {"A": value})
            self.assertIs(caught.exception.value, value)
            self.fails(lambda: moved(family, {"C": (9,), "A": value}), BadOrder, value=value)
            if value != (0, 1):
                self.fails(lambda: moved(family, {"C": value, "A": (0, 2, 1)}), BadOrder, value=value)

    def test_chained_members_that_lose_their_first_super(self):
        family = Family("class A { chained init { set a; } } class B(A) { init { super; set b; } } class C(B) { chained init { super; super; } }")
        self.fails(lambda: moved(family, {"B": (1, 0)}), NotChained, name="B", key="init")
        self.assertEqual(moved(family, {"C": (1, 0), "A": (0,)}), family)
        self.fails(lambda: moved(family, {"C": (0, 1), "B": (1, 0)}), NotChained, name="B", key="init")
        self.fails(lambda: moved(family, {"B": (1, 1)}), BadOrder, value=(1, 1))

    def test_an_extension_becomes_a_family(self):
        wide = Family("class A { init { super; set a; } }").extended("class H(A) { init { super; set h; } }")
        new = moved(wide, {"H": (1, 0)})
        self.assertIs(new.__class__, Family)
        self.assertEqual(new.body("H", "init"), (("set", "h"), ("super",)))


class LeastMoveTest(Case):
    def move(self, text, changes, inversions, many, sealed=()):
        """The least move of a family, or None."""
        family = Family(text)
        move = least_move(family, sealed=sealed)
        if changes is None:
            self.assertIsNone(move)
            return
        self.assertIs(move.__class__, Move)
        self.assertEqual((move.changes, move.inversions, len(move)), (changes, inversions, many))
        self.assertEqual(list(move.changes), [owner for owner in family.classes if "init" in family.own_keys(owner)])
        self.assertEqual(move.family, moved(family, changes))
        self.assertIs(move.family.__class__, Family)
        self.assertTrue(judge(move.family, sealed=sealed))

    def test_example(self):
        self.move("class A { init { super; set a; } method m { look a; } }", {"A": (1, 0)}, 1, 1)

    def test_safe_families(self):
        self.move("", {}, 0, 0)
        self.move("class A { } class B(A) { method m { } }", {}, 0, 0)
        self.move("class A { init { set a; super; } method m { look a; } }", {"A": (0, 1)}, 0, 0)
        self.move("class A { init { super; set a; } method m { look a; } }", {"A": (0, 1)}, 0, 0, ["init"])
        self.move("class A { init { } }", {"A": ()}, 0, 0)

    def test_none(self):
        self.move("class A { init { look a; } }", None, 0, 0)
        self.move("class A { init { super; } method m { look a; } }", None, 0, 0)
        self.move("class A { method m { look a; } }", None, 0, 0)
        self.move("class A { chained init { super; set a; } method m { look a; } }", {"A": (1, 0)}, 1, 1)
        self.move("class A { chained init { set z; } } class B(A) { init { super; set a; } method m { look a; } }", None, 0, 0)

    def test_the_fewest_inversions(self):
        self.move("class A { init { super; call m; set a; } method m { look a; } }", {"A": (2, 0, 1)}, 2, 1)
        self.move("class A { init { set b; super; set a; set c; } method m { look a; } }", {"A": (0, 2, 1, 3)}, 1, 1)
        self.move("class A { init { super; keep a; keep b; } method m { look a; } method n { look b; } }", {"A": (1, 2, 0)}, 2, 1)

    def test_the_least_of_several(self):
        self.move("class A { final init { look b; keep a; keep b; } }", {"A": (1, 2, 0)}, 2, 1)
        self.move("class A { final init { look b; if b { } else { keep b; } keep b; } }", {"A": (1, 0, 2)}, 1, 1)
        self.move("class A { final init { look a; keep a; keep a; } }", {"A": (1, 0, 2)}, 1, 1)
        self.move("class A { final init { look a; keep a; } } class B { final init { keep b; look b; keep b; } }",
                  {"A": (1, 0), "B": (0, 1, 2)}, 1, 1)

    def test_several_classes(self):
        self.move("class A { init { super; set a; } method m { look a; } } class B(A) { init { super; set b; } method n { look b; } }",
                  {"A": (1, 0), "B": (1, 0)}, 2, 2)
        self.move("class B { init { super; keep b; } } class A { init { super; set a; keep q; } method m { look a; } }",
                  {"B": (0, 1), "A": (1, 0, 2)}, 1, 1)
        self.move("class B { init { keep b; } } class A { init { set a; super; keep q; } method m { look a; } }", None, 0, 0)

    def test_24_moves_and_25(self):
        self.move("class A { init { super; super; super; set a; } method m { look a; } }", {"A": (3, 0, 1, 2)}, 3, 1)
        self.move("class A { init { super; super; set a; } method m { look a; } } "
                  "class B { init { super; super; } } class C { init { super; super; } }", {"A": (2, 0, 1), "B": (0, 1), "C": (0, 1)}, 2, 1)
        for text in ("class A { init { super; super; super; super; super; } }", "class A { init { %s } }" % ("super; " * 190),
                     "class A { init { super; super; super; super; } } class B { init { super; super; } }",
                     "class A { init { super; super; super; } } class B { init { super; super; super; } }",
                     "class A { value a, b, c, d, e, f; init { super; super; super; super; super; } }"):
            self.fails(lambda: least_move(Family(text)), TooMany, what="moves")
            self.fails(lambda: least_move(Family(text), sealed=["x"]), TooMany, what="moves")

    def test_errors_as_judge(self):
        self.fails(lambda: least_move(Family("class A { value a, b, c, d, e, f; }"), sealed=[None]), BadKey, key=None)
        self.fails(lambda: least_move(Family("class A { value a, b, c, d, e, f; }")), TooMany, what="names")
        self.fails(lambda: least_move(Family("class A { } class B { } class C { } class D { } class E { }")), TooMany, what="orders")

    def test_too_many_orders_whatever_the_inversions(self):
        # Only if B begins with `super` it may stand ahead of A and E.
        text = "class A { chained init { keep a; } } class B { init { %s } } class C { } class D { init { fail; } } class E { chained init { } }"
        family = Family(text % "set b; super;")
        self.assertEqual(len(old_orders(family)), 58)
        self.assertTrue(judge(family))
        self.fails(lambda: old_orders(moved(family, {"B": (1, 0)})), TooMany, what="orders")
        for sealed in ([], ["init"]):
            self.fails(lambda: least_move(family, sealed=sealed), TooMany, what="orders")
        self.fails(lambda: least_move(Family(text % "super; set b;")), TooMany, what="orders")
        self.fails(lambda: least_move(family, sealed=["x"]), BadKey, key="x")

    def test_against_judging_all_moves(self):
        rng = random.Random(71)
        found = []
        while len(found) < 60:
            family = self.drawn(rng) if rng.random() < 0.7 else Drawer(rng, methods="m", looks=0.5).family(2)
            owners = [owner for owner in family.classes if "init" in family.own_keys(owner)]
            lengths = [len(family.body(owner, "init")) for owner in owners]
            if not 1 < math.prod([math.factorial(many) for many in lengths]) <= 24:
                continue
            rows = []
            for orders in itertools.product(*[itertools.permutations(range(many)) for many in lengths]):
                try:
                    if judge(moved(family, dict(zip(owners, orders)))):
                        rows.append((sum(map(inversions_of, orders)), orders))
                except NotChained:
                    continue
            move = least_move(family)
            self.assertEqual(None if move is None else (move.inversions, tuple(move.changes.values())), min(rows, default=None), str(family))
            found.append(None if move is None else move.inversions)
        self.assertTrue(found.count(0) > 5 and found.count(None) > 5 and len(set(found)) > 3, found)

    def drawn(self, rng):
        """A family that often is safe after a move."""
        steps = ["super;", "super;", "set a;", "set b;", "keep a;", "call m;", "look b;", "if a { } else { fail; }", "keep b;"]
        one, two = [" ".join(rng.sample(steps, rng.choice([1, 2, 3]))) for _ in range(2)]
        grade, other = rng.choice(["", "chained ", "final "]), rng.choice(["", "(A)"])
        try:
            return Family("class A { %sinit { %s } method m { %s } } class B%s { init { %s } method m { super; } }" % (
                grade, one, rng.choice(["look a;", "super;", "set b;"]), other, two))
        except EarlyError:
            return self.drawn(rng)

    def test_what_is_returned_is_new(self):
        family = Family("class A { init { super; set a; } method m { look a; } }")
        first = least_move(family=family, sealed=())
        first.changes["A"] = "x"
        first.changes["Q"] = ()
        self.assertEqual(least_move(family).changes, {"A": (1, 0)})

    def test_the_length_stays_when_the_dict_is_changed(self):
        text = "class A { init { %s } method m { look a; } } class B(A) { init { super; set b; } }"
        for steps, changes, many in (("super; set a;", {"A": (1, 0), "B": (0, 1)}, 1), ("set a; super;", {"A": (0, 1), "B": (0, 1)}, 0)):
            move = least_move(Family(text % steps))
            self.assertEqual((move.changes, len(move)), (changes, many))
            for owner, order in (("Zz", (1, 0)), ("B", (1, 0)), ("A", (0, 1)), ("A", None)):
                move.changes[owner] = order
                self.assertEqual((len(move), move.inversions), (many, many))
            del move.changes["A"]
            self.assertEqual((len(move), move.inversions), (many, many))
            move.changes.clear()
            self.assertEqual((len(move), move.inversions, str(move.family)), (many, many, text.replace("} class", "}\nclass") % "set a; super;"))

    def test_an_extension(self):
        wide = Family("class A { init { super; set a; } method m { look a; } }").extended("class H(A) { init { super; set h; } }")
        move = least_move(wide)
        self.assertEqual((move.changes, move.family.__class__), ({"A": (1, 0), "H": (0, 1)}, Family))
