"""Point 13 and class Maker: makers and their objects, deeds, wrong values, and walks."""

import inspect

from earlyfields.engine import Maker
from earlyfields.errors import BadDeed, BadLimit, BadName, Gap, Long, NoClass, NoObject
from earlyfields.families import Family
from tests.helpers import STRANGE, MakingCase, result_of, state_of, words_of

TEXT = """
    shared s, t;
    class A { value v; init { keep s; either { keep a; } or { fail; } or { look z; } or { loop { } } }
        method m { keep b; } method bad { keep c; fail; } setter w { keep d; } getter r { keep d; } method deep { call deep; } }
    class B(A) { }
    class C { init { super; } method m { keep d; } }
"""
MADE = ("a", "v")
NO_LIMITS = [value for value in STRANGE if value.__class__ is not int or not 1 <= value <= 2000] + [2001, 10 ** 29, -10 ** 29, "1", (1,), [1]]
NO_DEEDS = list(STRANGE) + [
    ["make", "A"], ["call", "m"], ("make",), ("call",), ("make", "A", ()), ("call", "m", "m"), ("make", "D"), ("make", "a"), ("make", "init"),
    ("make", ["A"]), ("make", ("A",)), ("make", None), ("make", True), ("call", "init"), ("call", "super"), ("set", "class"), ("read", "look"),
    ("call", "A"), ("call", ""), ("call", "longername"), ("set", "a b"), ("read", " a"), ("read", "a1"), ("call", True), ("call", None),
    ("call", 1), ("set", ("a",)), ("read", ["a"]), ("keep", "a"), ("look", "a"), ("of", "A"), ("super",), ("fail",), ("init", "A"),
    (True, "a"), (None, "A"), (("call",), "m"), (["call"], "m"), (1, 2), "mA", {"call": "m"}, "call", ("Call", "m"), ("call ", "m"),
]


class ObjectTest(MakingCase):
    def setUp(self):
        self.maker = Maker(Family(TEXT))

    def test_before_the_first_making(self):
        self.assertEqual(state_of(self.maker), (None, ()))
        self.assertIsNone(self.maker.current_class)
        self.assertEqual(self.maker.event_count, 0)

    def test_the_object_is_the_last_one_that_was_made(self):
        for owner, own in (("A", MADE), ("C", ()), ("B", MADE), ("A", MADE)):
            self.assertIs(self.maker.make(owner), True)
            self.assertEqual((self.maker.current_class, self.maker.current_own), (owner, own))

    def test_it_is_given_up_when_the_next_making_begins(self):
        for picks, result in (([1], False), ([2], ("gap", "z", "A", "init", (1, 2, 0))), ([3] + [1] * 300, ("long", 200))):
            for way in (lambda: self.maker.make("B", picks), lambda: self.maker.use(("make", "B"), picks)):
                self.assertIs(self.maker.make("A"), True)
                self.assertEqual(result_of(way), result)
                self.assertEqual((self.maker.current_own, self.maker.current_class), (None, None))
                self.fails(lambda: self.maker.use(("call", "m")), NoObject)

    def test_behind_the_limit_there_is_none(self):
        self.assertIs(self.maker.make("A"), True)
        self.fails(lambda: self.maker.use(("call", "deep")), Long, most=200)
        self.assertEqual(state_of(self.maker), (None, ("s",)))
        self.fails(lambda: self.maker.use(("call", "m")), NoObject)
        self.assertEqual(len(list(self.maker.walk())), 200)
        self.assertIs(self.maker.make("C"), True)
        self.assertEqual(state_of(self.maker), ((), ("s",)))

    def test_two_makers_of_the_same_family_side_by_side(self):
        family = Family(TEXT)
        one, two = Maker(family), Maker(family, shared=["t"])
        self.assertIs(one.make("A"), True)
        self.assertEqual((state_of(two), two.event_count), ((None, ("t",)), 0))
        self.assertIs(two.make("C"), True)
        self.assertIs(one.use(("set", "k")), True)
        self.assertEqual((state_of(one), one.current_class, one.event_count), ((("a", "k", "v"), ("s",)), "A", 3))
        self.assertEqual((state_of(two), two.current_class, two.event_count), (((), ("t",)), "C", 1))
        self.assertEqual(list(two.walk()), [(0, "C", "init", (0,), "super")])
        two.limit = 1
        self.assertEqual((one.limit, two.limit), (200, 1))

    def test_an_extension(self):
        wide = Family("class A { init { super; set a; } method m { look a; } }").extended("class H { init { super; call m; } } class J(A, H) { }")
        maker = Maker(wide)
        self.fails(lambda: maker.make("J"), Gap, name="a", owner="A", key="method m", path=(0,))
        self.assertEqual(list(maker.walk()), [(0, "A", "init", (0,), "super"), (0, "H", "init", (0,), "super"),
                                              (0, "H", "init", (1,), "call"), (0, "A", "method m", (0,), "look")])
        self.assertIs(maker.make("H"), True)
        self.assertIs(maker.use(("make", "A")), True)

    def test_picks_are_a_list_or_a_tuple_and_count_for_one_call(self):
        for picks in ([1], (1,)):
            self.assertIs(self.maker.make("A", picks), False)
            self.assertIs(self.maker.make("A", picks=picks), False)
            self.assertIs(self.maker.use(("make", "A"), picks), False)
            self.assertIs(self.maker.use(deed=("make", "A"), picks=picks), False)
            self.assertEqual(tuple(picks), (1,))
        self.assertIs(self.maker.make("A"), True)
        self.assertIs(self.maker.make(owner="A", picks=[4]), True)


class DeedsTest(MakingCase):
    def setUp(self):
        self.maker = Maker(Family(TEXT))
        self.maker.make("A")

    def check(self, deed, expected, own, words):
        """A deed returns what is expected, the object owns these names then, and these were the events."""
        self.assertIs(self.maker.use(deed), expected)
        self.assertEqual(state_of(self.maker), (own, ("s",)))
        self.assertEqual(words_of(self.maker.walk()), words)

    def test_call(self):
        self.check(("call", "m"), True, ("a", "b", "v"), "keep")
        self.check(("call", "unknown"), True, ("a", "b", "v"), "")
        self.check(("call", "a"), True, ("a", "b", "v"), "")

    def test_set(self):
        self.check(("set", "k"), True, ("a", "k", "v"), "")
        self.check(("set", "w"), True, ("a", "d", "k", "v"), "keep")
        self.check(("set", "m"), True, ("a", "d", "k", "m", "v"), "")
        self.assertIs(self.maker.use(("set", "t")), True)
        self.assertEqual(state_of(self.maker), (("a", "d", "k", "m", "v"), ("s", "t")))

    def test_read(self):
        self.check(("read", "a"), True, MADE, "")
        self.check(("read", "v"), True, MADE, "")
        self.check(("read", "s"), True, MADE, "")
        self.check(("read", "r"), True, ("a", "d", "v"), "keep")
        self.check(("set", "unknown"), True, ("a", "d", "unknown", "v"), "")
        self.check(("read", "unknown"), True, ("a", "d", "unknown", "v"), "")
        self.fails(lambda: self.maker.use(("read", "t")), Gap, name="t", owner=None, key=None, path=())

    def test_make(self):
        self.check(("make", "C"), True, (), "super")
        self.assertEqual(self.maker.current_class, "C")
        self.check(("call", "m"), True, ("d",), "keep")

    def test_deeds_that_fail_and_what_stays(self):
        self.check(("call", "bad"), False, ("a", "c", "v"), "keep fail")
        self.assertEqual(self.maker.current_class, "A")
        self.check(("call", "m"), True, ("a", "b", "c", "v"), "keep")
        maker = Maker(Family("shared s; class A { init { keep s; keep a; fail; } } class B { } class C(B) { setter a { keep s; fail; } }"))
        self.assertIs(maker.make("C"), True)
        self.assertIs(maker.use(("set", "a")), False)
        self.assertEqual((state_of(maker), maker.current_class), (((), ("s",)), "C"))
        self.assertIs(maker.use(("make", "A")), False)
        self.assertEqual((state_of(maker), maker.current_class), ((None, ("s",)), None))

    def test_setters_and_getters_that_fail(self):
        maker = Maker(Family("class A { setter a { keep b; fail; } getter a { keep c; fail; } }"))
        maker.make("A")
        self.assertIs(maker.use(("set", "a")), False)
        self.assertIs(maker.use(("read", "a")), False)
        self.assertEqual(maker.current_own, ("b", "c"))

    def test_the_last_setter_and_getter(self):
        maker = Maker(Family("shared s; class A { setter a { super; } getter a { super; } setter s { super; } setter q { } getter q { } }"))
        maker.make("A")
        self.assertEqual(result_of(lambda: maker.use(("read", "a"))), ("gap", "a", "A", "getter a", (0,)))
        maker.make("A")
        for deed in (("set", "a"), ("read", "a"), ("set", "s"), ("read", "s"), ("set", "q"), ("read", "q")):
            self.assertIs(maker.use(deed), True)
        self.assertEqual(state_of(maker), (("a",), ("s",)))

    def test_picks(self):
        maker = Maker(Family("class A { method m { either { keep a; } or { keep b; } or { fail; } } }"))
        maker.make("A", [1])
        self.assertIs(maker.use(("call", "m")), True)
        self.assertEqual(maker.current_own, ("a",))
        self.assertIs(maker.use(("call", "m"), [10 ** 29]), True)
        self.assertEqual(maker.current_own, ("a", "b"))
        self.assertIs(maker.use(("call", "m"), (-1,)), False)


class WrongValuesTest(MakingCase):
    def setUp(self):
        self.family = Family(TEXT)

    def test_limits_that_are_none(self):
        maker = Maker(self.family)
        for value in NO_LIMITS:
            self.fails(lambda: Maker(self.family, limit=value), BadLimit, value=value)
            self.fails(lambda: maker.change(value), BadLimit, value=value)
            with self.assertRaises(BadLimit) as caught:
                maker.limit = value
            self.assertIs(caught.exception.value, value)
            self.assertEqual(maker.limit, 200)

    def test_limits(self):
        for value in (1, 2, 199, 200, 1999, 2000):
            maker = Maker(self.family, limit=value)
            self.assertEqual(maker.limit, value)
            maker.limit = 2001 - value
            self.assertEqual(maker.limit, 2001 - value)
            maker.change(value)
            self.assertEqual(maker.limit, value)

    def test_shared_names_that_are_none(self):
        for value in list(STRANGE) + ["a", "v", "m", "st", "A", ("s",), ["s"]]:
            self.fails(lambda: Maker(self.family, shared=[value]), BadName, name=value)
            self.fails(lambda: Maker(self.family, shared=("s", value, 0)), BadName, name=value)

    def test_the_limit_comes_first(self):
        self.fails(lambda: Maker(self.family, limit=0, shared=["a"]), BadLimit, value=0)
        self.fails(lambda: Maker(self.family, limit=1, shared=["t", "b", "a"]), BadName, name="b")

    def test_shared_names(self):
        for shared, names in (((), ()), ([], ()), (["t"], ("t",)), (("t", "s"), ("s", "t")), (["s", "s"], ("s",)), (("t", "s", "t"), ("s", "t"))):
            maker = Maker(self.family, shared=shared)
            self.assertEqual(maker.current_shared, names)
        given = ["s"]
        maker = Maker(self.family, shared=given)
        given.append("t")
        self.assertEqual(maker.current_shared, ("s",))
        self.assertEqual(given, ["s", "t"])
        maker.make("A")
        self.assertEqual(given, ["s", "t"])

    def test_by_name_only(self):
        for call in (lambda: Maker(self.family, 5), lambda: Maker(self.family, 5, ())):
            with self.assertRaises(TypeError):
                call()
        self.assertEqual(Maker(family=self.family, shared=(), limit=5).limit, 5)

    def test_classes_that_are_none(self):
        maker = Maker(self.family)
        for value in list(STRANGE) + ["a", "D", "AB", ("make", "A")]:
            self.fails(lambda: maker.make(value), NoClass, name=value)

    def test_values_that_are_no_deeds(self):
        maker = Maker(self.family)
        for value in NO_DEEDS:
            self.fails(lambda: maker.use(value), BadDeed, at=0)
        maker.make("A")
        for value in NO_DEEDS:
            self.fails(lambda: maker.use(value, [1]), BadDeed, at=0)
            self.assertEqual((maker.current_class, maker.current_own, maker.event_count), ("A", MADE, 3))

    def test_no_object(self):
        maker = Maker(self.family)
        for deed in (("call", "m"), ("call", "unknown"), ("set", "a"), ("read", "a"), ("read", "unknown")):
            self.fails(lambda: maker.use(deed), NoObject)
        self.assertIs(maker.use(("make", "A")), True)

    def test_properties_that_are_only_read(self):
        maker = Maker(self.family)
        for name in ("current_shared", "current_own", "current_class", "event_count"):
            with self.assertRaises(AttributeError):
                setattr(maker, name, None)
            self.assertIsInstance(inspect.getattr_static(Maker, name), property)
        self.assertIsInstance(inspect.getattr_static(Maker, "limit"), property)

    def test_what_is_returned(self):
        maker = Maker(self.family)
        self.assertIsNone(maker.change(5))
        maker.make("A")
        for value in (maker.current_own, maker.current_shared):
            self.assertIs(value.__class__, tuple)
        self.assertIs(maker.use(("call", "m")), True)

    def test_a_family_stays_as_it_is(self):
        text = str(self.family)
        maker = Maker(self.family)
        maker.make("A")
        maker.use(("set", "k"))
        self.assertEqual(str(self.family), text)
        self.assertEqual(self.family.birth("A"), ("v",))

    def test_attributes_of_the_family_that_are_assigned_later_mean_nothing(self):
        maker = Maker(self.family)
        self.family.classes, self.family.names, self.family.shared = (), (), ()
        self.assertIs(maker.make("A"), True)
        self.assertEqual(state_of(maker), (MADE, ("s",)))

    def test_equality(self):
        self.assertFalse(Maker(self.family) == Maker(self.family).current_own)
        self.assertFalse(Maker(self.family) == "Maker")


class WalkTest(MakingCase):
    KEEP = [(0, "A", "init", (0,), "keep")]

    def setUp(self):
        self.maker = Maker(Family("""
            class A { init { keep a; } method m { keep b; keep c; } method n { look z; } method o { call o; } method p { fail; } }
        """))

    def walked(self):
        """The events of the last call."""
        return list(self.maker.walk())

    def test_a_generator(self):
        self.assertTrue(inspect.isgenerator(self.maker.walk()))
        self.assertTrue(inspect.isgeneratorfunction(Maker.walk))

    def test_before_the_first_call(self):
        self.assertEqual(self.walked(), [])
        self.fails(lambda: self.maker.make("B"), NoClass, name="B")
        self.fails(lambda: self.maker.use(("call", "m")), NoObject)
        self.assertEqual(self.walked(), [])

    def test_of_the_last_call(self):
        self.maker.make("A")
        self.assertEqual(self.walked(), self.KEEP)
        self.assertEqual(self.walked(), self.KEEP)
        self.maker.use(("call", "m"))
        self.assertEqual(self.walked(), [(0, "A", "method m", (0,), "keep"), (0, "A", "method m", (1,), "keep")])
        self.maker.use(("call", "p"))
        self.assertEqual(self.walked(), [(0, "A", "method p", (0,), "fail")])
        self.maker.use(("set", "q"))
        self.assertEqual(self.walked(), [])

    def test_after_wrong_calls(self):
        self.maker.make("A")
        self.fails(lambda: self.maker.make("B"), NoClass, name="B")
        self.fails(lambda: self.maker.use(("make", "B")), BadDeed, at=0)
        self.fails(lambda: self.maker.use(None), BadDeed, at=0)
        self.assertEqual(self.walked(), self.KEEP)
        result_of(lambda: self.maker.use(("call", "n")))
        self.fails(lambda: self.maker.use(("call", "m")), NoObject)
        self.assertEqual(self.walked(), [(0, "A", "method n", (0,), "look")])

    def test_after_a_gap_and_the_limit(self):
        self.maker.make("A")
        self.assertEqual(result_of(lambda: self.maker.use(("call", "n"))), ("gap", "z", "A", "method n", (0,)))
        self.assertEqual(self.walked(), [(0, "A", "method n", (0,), "look")])
        self.maker.make("A")
        self.maker.limit = 3
        self.assertEqual(result_of(lambda: self.maker.use(("call", "o"))), ("long", 3))
        self.assertEqual(self.walked(), [(1, "A", "method o", (0,), "call")] * 3)
        self.maker.make("A")
        self.assertEqual(result_of(lambda: self.maker.use(("read", "z")))[0], "gap")
        self.assertEqual(self.walked(), [])

    def test_a_call_between_the_beginning_of_an_iteration_and_its_end(self):
        self.maker.make("A")
        self.maker.use(("call", "m"))
        walk = self.maker.walk()
        self.assertEqual(next(walk), (0, "A", "method m", (0,), "keep"))
        self.maker.make("A")
        self.assertEqual(list(walk), [(0, "A", "method m", (1,), "keep")])
        self.assertEqual(self.walked(), [(1, "A", "init", (0,), "keep")])

    def test_a_call_before_the_iteration_begins(self):
        self.maker.make("A")
        walk = self.maker.walk()
        self.maker.use(("call", "m"))
        self.assertEqual(words_of(walk), "keep keep")
        self.assertEqual(list(walk), [])

    def test_walks_side_by_side(self):
        self.maker.make("A")
        self.maker.use(("call", "m"))
        one, two = self.maker.walk(), self.maker.walk()
        self.assertEqual(next(one), next(two))
        self.assertEqual(list(one), list(two))

    def test_events_are_tuples(self):
        self.maker.make("A")
        self.assertEqual([event.__class__ for event in self.walked()], [tuple])
