"""Point 26: sequences of makings."""

import itertools
import random

from earlyfields.engine import Maker
from earlyfields.errors import Gap, Long, NoClass, TooMany
from earlyfields.families import Family
from earlyfields.makings import Sequence, first_safe, safe_sequences
from tests.helpers import STRANGE, Case

GIVES = "shared s; class A { init { keep s; } } class B { init { look s; } }"


def drawn(rng):
    """A family in which makings give one another shared names, or miss them."""
    def step(depth):
        word = rng.choice(["keep s;", "keep t;", "look s;", "if", "if", "either", "fail;", "make", "loop { keep t; }", "call m;", "keep a;"])
        if word == "if":
            return "if %s { %s } else { %s }" % (rng.choice("stu"), body(depth + 1), body(depth + 1))
        if word == "either":
            return "either { %s } or { %s }" % (body(depth + 1), body(depth + 1))
        return "make %s;" % rng.choice("ABC") if word == "make" and depth > 0 else word.replace("make", "")

    def body(depth):
        return " ".join([step(depth) for _ in range(rng.choice([0, 1, 2] if depth else [1, 2, 3]))]) if depth < 3 else ""

    rows = ["class %s { init { %s } method m { %s } }" % (name, body(0), rng.choice(["look t;", "", "keep u;"])) for name in "ABC"]
    return Family("shared s, t, u; " + " ".join(rows))


def made(family, classes, picks, limit=2000):
    """The index of the making that shows a gap with these picks, and all events up to there; None without one.

    How many picks a making takes is seen from its events: one for each `either` and each `loop`.
    """
    maker = Maker(family, limit=limit)
    many, left = 0, list(picks)
    for index, owner in enumerate(classes):
        try:
            maker.make(owner, left)
        except Gap:
            return index, many + len(list(maker.walk()))
        except Long:
            return None, None
        events = list(maker.walk())
        many += len(events)
        left = left[len([event for event in events if event[4] in ("either", "loop")]):]
    return None, many


class SequenceTest(Case):
    def sequence(self, text, classes, at, steps):
        """The first gap of a sequence, to which the picks lead."""
        family = Family(text)
        sequence = Sequence(family, classes)
        self.assertEqual((sequence.at, sequence.steps, bool(sequence), len(sequence)), (at, steps, at is None, len(classes)), text)
        if at is None or steps > 200:
            self.assertIsNone(sequence.picks)
        else:
            self.assertIs(sequence.picks.__class__, list)
            self.assertEqual(made(family, classes, sequence.picks), (at, steps))
        return sequence

    def test_shared_names_of_a_making_before(self):
        self.sequence(GIVES, ["B", "A"], 0, 1)
        self.sequence(GIVES, ["A", "B"], None, None)
        self.sequence(GIVES, ("A", "A", "B", "B"), None, None)
        self.sequence("shared s; class A { init { either { keep s; } or { } } } class B { init { look s; } }", ["A", "B"], 1, 2)
        self.sequence("shared s; class A { value s; init { } } class B { init { look s; } }", ["A", "B"], 1, 1)

    def test_the_empty_sequence(self):
        for classes in ([], ()):
            self.sequence(GIVES, classes, None, None)
            self.sequence("", classes, None, None)

    def test_without_an_init(self):
        self.sequence("shared s; class A { } class B { init { look s; } }", ["A", "A", "B"], 2, 1)
        self.sequence("class A { }", ["A"] * 5, None, None)

    def test_makings_that_fail(self):
        self.sequence("shared s; class A { init { keep s; fail; } } class B { init { look s; } }", ["A", "B"], None, None)
        self.sequence("shared s; class A { init { either { keep s; } or { fail; } } } class B { init { keep b; look s; } }", ["A", "B"], 1, 4)

    def test_makings_that_never_end(self):
        text = "shared s; class A { init { call m; } method m { %s call m; } } class B { init { look s; } }"
        self.sequence(text % "", ["A", "B"], None, None)
        self.sequence(text % "", ["B", "A"], 0, 1)
        self.sequence(text % "look s;", ["A", "B"], 0, 2)
        last = " class B { init { if s { look z; } else { } } }"
        self.sequence("shared s; class A { init { either { make A; } or { keep s; } } }" + last, ["A", "B"], 1, 4)

    def test_the_least_index(self):
        text = "shared s; class A { init { either { } or { keep a; keep a; look z; } } } class B { init { look z; } }"
        self.sequence(text, ["A", "B"], 0, 4)
        self.sequence(text, ["B", "A"], 0, 1)
        text = "shared s; class A { init { either { } or { keep a; keep s; } } } class B { init { if s { look z; } else { } } }"
        self.sequence(text, ["A", "A", "B"], 2, 6)
        self.sequence("shared s; class A { init { if s { look z; } else { either { } or { keep a; keep a; keep s; } } } }", ["A", "A", "A"], 1, 7)

    def test_beyond_200_events(self):
        text = "shared s; class A { init { %s keep s; } } class B { init { if s { look z; } else { } } }"
        self.sequence(text % ("keep a; " * 197), ["A", "B"], 1, 200)
        self.sequence(text % ("keep a; " * 198), ["A", "B"], 1, 201)
        self.sequence(text % ("keep a; " * 150), ["A", "A", "B"], 2, 304)
        words = ["m" + letter for letter in "abcdefghijk"]
        members = ["method %s { call %s; call %s; }" % (word, after, after) for word, after in zip(words, words[1:])]
        self.sequence("class A { init { call ma; look z; } %s }" % " ".join(members), ["A"], 0, 2 ** 11)

    def test_an_object_of_its_own_each_time(self):
        self.sequence("class A { init { keep a; } } class B { init { look a; } }", ["A", "B"], 1, 2)
        self.sequence("class A { init { if a { look z; } else { keep a; } } }", ["A", "A", "A"], None, None)

    def test_picks_through_several_makings(self):
        text = ("shared s, t; class A { init { either { } or { keep s; } loop { } } } "
                "class B { init { either { } or { if s { keep t; } else { } } } } "
                "class C { init { if t { either { } or { look z; } } else { } } }")
        sequence = self.sequence(text, ["A", "B", "C"], 2, 9)
        self.assertEqual(sequence.picks, [1, 0, 1, 1])

    def test_against_makings_with_all_short_picks(self):
        rng = random.Random(81)
        found = []
        for _ in range(120):
            family = drawn(rng)
            classes = [rng.choice(family.classes) for _ in range(rng.randint(1, 3))]
            sequence = Sequence(family, classes)
            if sequence.at is not None:
                self.assertEqual(made(family, classes, sequence.picks), (sequence.at, sequence.steps), str(family))
            for picks in itertools.product((0, 1), repeat=6):
                at, steps = made(family, classes, picks, 100)
                if at is not None:
                    self.assertTrue(sequence.at is not None and sequence.at <= at)
                    self.assertTrue(sequence.at < at or sequence.steps <= steps)
            found.append(sequence.at)
        self.assertTrue(found.count(None) > 20 and found.count(0) > 20 and len([at for at in found if at]) > 10, found)

    def test_wrong_arguments(self):
        family = Family(GIVES)
        for call in (Sequence, safe_sequences, first_safe):
            for value in [value for value in STRANGE] + ["C", "a"]:
                self.fails(lambda: call(family, ["A", value, None]), NoClass, name=value)
                self.fails(lambda: call(family, ("A",) * 6 + (value,)), NoClass, name=value)
            self.fails(lambda: call(family, ["A"] * 6), TooMany, what="makings")
            big = Family("class A { value a, b, c, d, e, f; init { %s } } " % ("super; " * 301))
            self.fails(lambda: call(big, ["A"] * 6), TooMany, what="makings")
            self.fails(lambda: call(big, ["A"]), TooMany, what="names")
            self.fails(lambda: call(Family("class A { init { %s } } " % ("super; " * 301)), []), TooMany, what="steps")
            eleven = Family(str(big) + " ".join(["class %s { }" % name for name in "BCDEFGHIJK"]))
            self.fails(lambda: call(eleven, []), TooMany, what="classes")

    def test_at_the_bounds(self):
        text = " ".join(["class %s { init { %s } }" % (name, "keep %s; " % other * 30) for name, other in zip("ABCDEFGHIJ", "abcdeabcde")])
        self.sequence(text, list("ABCDE"), None, None)
        self.assertEqual(len(safe_sequences(Family(text), "ABCDE")), 120)

    def test_objects_copy_their_arguments(self):
        classes = ["B", "A"]
        sequence = Sequence(family=Family(GIVES), classes=classes)
        classes.append("A")
        self.assertEqual((len(sequence), classes), (2, ["B", "A", "A"]))
        sequence.picks.append(1)
        self.assertEqual(Sequence(Family(GIVES), ["B", "A"]).picks, [])

    def test_an_extension(self):
        wide = Family(GIVES).extended("class H(B) { init { super; set y; } }")
        self.assertEqual((Sequence(wide, ["H"]).at, Sequence(wide, ["A", "H"]).at, Sequence(wide, ["H"]).steps), (0, None, 2))


class SafeSequencesTest(Case):
    def test_example(self):
        family = Family(GIVES)
        self.assertEqual(safe_sequences(family, ["B", "A"]), [("A", "B")])
        self.assertEqual(first_safe(family, ["B", "A"]), ("A", "B"))

    def test_none(self):
        family = Family(GIVES)
        self.assertEqual((safe_sequences(family, ["B"]), first_safe(family, ("B", "B"))), ([], None))

    def test_the_empty_one(self):
        self.assertEqual((safe_sequences(Family(""), []), first_safe(Family(GIVES), ())), ([()], ()))

    def test_orders_that_come_out_alike(self):
        family = Family(GIVES)
        self.assertEqual(safe_sequences(family, ["A", "A", "A"]), [("A", "A", "A")])
        self.assertEqual(safe_sequences(family=family, classes=["B", "A", "B", "A"]),
                         [("A", "A", "B", "B"), ("A", "B", "A", "B"), ("A", "B", "B", "A")])
        self.assertEqual(first_safe(family=family, classes=["B", "A", "B", "A"]), ("A", "A", "B", "B"))

    def test_against_sequences(self):
        rng = random.Random(82)
        sizes = []
        for _ in range(60):
            family = drawn(rng)
            classes = [rng.choice(family.classes) for _ in range(rng.randint(1, 5))]
            expected = sorted({order for order in itertools.permutations(classes) if Sequence(family, order)})
            self.assertEqual(safe_sequences(family, classes), expected, str(family))
            self.assertEqual(first_safe(family, tuple(classes)), (expected + [None])[0])
            sizes.append((len(expected), len(set(itertools.permutations(classes)))))
        self.assertTrue(len([1 for few, many in sizes if 0 < few < many]) > 3, sizes)

    def test_what_is_returned_is_new(self):
        family = Family(GIVES)
        safe_sequences(family, ["A"]).clear()
        self.assertEqual(safe_sequences(family, ["A"]), [("A",)])
