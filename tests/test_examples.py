"""The examples of the document."""

from earlyfields.ends import Ends
from earlyfields.engine import Maker
from earlyfields.errors import BadText, Gap, NoOrder, NotLawful
from earlyfields.families import Family
from earlyfields.judging import judge
from earlyfields.makings import safe_sequences
from earlyfields.moves import least_move
from earlyfields.orders import old_orders
from earlyfields.reliance import sure
from earlyfields.seals import least_seals
from earlyfields.stories import tell
from earlyfields.texts import read_steps, write_steps
from earlyfields.watchers import Report
from tests.helpers import Case


class ExamplesTest(Case):
    def test_read_steps(self):
        self.assertEqual(read_steps("set a; if b { } else { call m; fail; }"),
                         (("set", "a"), ("if", "b", (), (("call", "m"), ("fail",)))))

    def test_read_steps_of_a_text_that_ends_too_early(self):
        self.fails(lambda: read_steps("set a"), BadText, at=5)

    def test_write_steps(self):
        self.assertEqual(write_steps((("loop", (("keep", "a"),)), ("super",))), "loop { keep a; } super;")

    def test_the_canonical_text(self):
        self.assertEqual(str(Family("class A{final method m{look a;}promise init:b,a;value c;}")),
                         "class A { value c; promise init: a, b; final method m { look a; } }")

    def test_an_order(self):
        family = Family("class A { } class B(A) { } class C(A) { } class D(B, C) { }")
        self.assertEqual(family.order("D"), ("D", "B", "C", "A"))

    def test_no_order(self):
        self.fails(lambda: Family("class A { } class B(A) { } class C(A, B) { }"), NoOrder, name="C")

    def test_not_lawful(self):
        family = Family("class A { init { super; set a; } method m { look a; } }")
        self.fails(lambda: family.extended("class H { init { call m; } }"), NotLawful, owner="H", key="init", path=())

    def test_the_order_in_point_18(self):
        family = Family("class A { init { super; set a; } method m { look a; } }")
        wide = family.extended("class H { init { super; call m; } } class J(A, H) { }")
        self.assertEqual(wide.order("J"), ("J", "A", "H"))
        self.assertEqual(wide.old_order("J"), ("A",))

    def test_the_path_in_point_5(self):
        text = "set a; if b { } else { call m; fail; }"
        self.fails(lambda: Family("class A { }").extended("class H { method m { " + text.replace("fail", "keep a") + " } }"),
                   NotLawful, owner="H", key="method m", path=(1, 1, 1))

    def test_a_gap(self):
        family = Family("class A { init { super; set a; } method m { look a; } }")
        wide = family.extended("class H { init { super; call m; } } class J(A, H) { }")
        self.fails(lambda: Maker(wide).make("J"), Gap, name="a", owner="A", key="method m", path=(0,))

    def test_a_run(self):
        family = Family("class A { init { super; set a; } method m { look a; } }")
        wide = family.extended("class H { init { super; call m; } } class J(A, H) { }")
        run = tell(wide, [("make", "J")])
        self.assertEqual([run.outcome, run.at, run.steps, run.old_steps(["A"])], ["gap", 0, 4, 2])

    def test_a_report(self):
        maker = Maker(Family("class A { init { super; set a; } }"))
        report = Report()
        maker.watch(report)
        maker.make("A")
        self.assertEqual(str(report), "set         1\nsuper       1")

    def test_old_orders(self):
        self.assertEqual(old_orders(Family("class A { } class B { }")), [(), ("A",), ("A", "B"), ("B",), ("B", "A")])

    def test_point_18(self):
        family = Family("class A { init { set a; super; } method m { look a; } }")
        wide = family.extended("class H { init { super; call m; } } class J(A, H) { }")
        run = tell(wide, [("make", "J"), ("call", "m")])
        self.assertEqual((run.outcome, run.own), ("done", ("a",)))

    def test_ends(self):
        family = Family("class A { init { either { keep a; } or { fail; } look a; } }")
        self.assertEqual(Ends(family, "A").listed(), [("failed", ()), ("made", ("a",), ())])
        self.assertEqual(Ends(family, "A").steps_to(("made", ("a",), ())), 3)

    def test_judge(self):
        self.assertEqual(judge(Family("class A { init { super; set a; } method m { look a; } }")).steps, 2)
        self.assertEqual(str(judge(Family("class A { init { set a; super; } method m { look a; } }"))), "safe")

    def test_sure(self):
        result = sure(Family("class A { init { set a; call m; super; } method m { } }"), "A")
        self.assertEqual(list(result.items()), [("init", ("a",)), ("method m", ("a",))])

    def test_least_seals(self):
        self.assertEqual(least_seals(Family("class A { init { super; set a; } method m { look a; } }")), [("init",)])

    def test_least_move(self):
        move = least_move(Family("class A { init { super; set a; } method m { look a; } }"))
        self.assertEqual([move.changes, move.inversions], [{"A": (1, 0)}, 1])

    def test_safe_sequences(self):
        family = Family("shared s; class A { init { keep s; } } class B { init { look s; } }")
        self.assertEqual(safe_sequences(family, ["B", "A"]), [("A", "B")])
