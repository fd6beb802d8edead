"""Point 2: a list or a dict that is an attribute belongs to its object alone; changing it changes no other answer."""

import unittest

from earlyfields.checking import is_derivation, is_floor
from earlyfields.ends import Ends
from earlyfields.engine import Maker
from earlyfields.families import Family
from earlyfields.judging import judge
from earlyfields.makings import Sequence
from earlyfields.moves import least_move
from earlyfields.stories import tell
from earlyfields.watchers import Report

GAPPED = Family("class A { promise init: b; init { either { super; } or { fail; } set a; set b; } method m { look a; } }")
MOVABLE = Family("""
    class A { init { super; set a; } method m { look a; } }
    class B(A) { init { super; set b; } method n { look b; } } class C(B) { init { super; set c; } }
""")
SHARING = Family("shared s; class A { init { either { keep s; } or { fail; } } } class B { init { look s; } }")


def answers_of_verdict(verdict):
    """All that a verdict says but for its lists."""
    return (bool(verdict), str(verdict), verdict.steps, verdict.floor, verdict.derivation, str(verdict.extension),
            is_floor(GAPPED, verdict.floor), is_derivation(GAPPED, verdict.derivation))


def answers_of_move(move):
    """All that a move says but for its dict."""
    return len(move), move.inversions, str(move.family)


def answers_of_sequence(sequence):
    """All that a sequence says but for its picks."""
    return bool(sequence), len(sequence), sequence.at, sequence.steps


def answers_of_run(run):
    """All that a run says."""
    return (run.outcome, run.at, run.gap, run.events, run.steps, run.failed, run.own, run.shared, run.old_steps(["A"]))


def answers_of_ends(ends):
    """All that ends say."""
    return len(ends), list(ends), ends.listed(), [(end in ends, ends.steps_to(end), ends.picks_to(end)) for end in ends]


def answers_of_family(family):
    """What a family or an extension says of itself and of its classes."""
    rows = [(family.order(name), family.bases(name), family.birth(name), family.own_keys(name)) for name in family.classes]
    return (len(family), str(family), family.classes, family.names, family.methods, family.shared, family.all_keys(), rows,
            family.heirs, family.heir_text(), str(family.family))


def answers_of_watched(watched):
    """What a maker and its watcher say."""
    maker, report = watched
    return (maker.limit, maker.current_own, maker.current_shared, maker.current_class, maker.event_count, list(maker.walk()),
            report.many, report.listed(), report.count_of("set"), str(report))


def new_watched():
    """A maker that has made an object, and its watcher."""
    maker, report = Maker(GAPPED), Report()
    maker.watch(report)
    maker.make("A")
    return maker, report


# How an object is made, what it says, and which of its listed attributes are lists or dicts.
ROWS = (
    (lambda: judge(GAPPED), answers_of_verdict, ("story", "picks")),
    (lambda: least_move(MOVABLE), answers_of_move, ("changes",)),
    (lambda: Sequence(SHARING, ["A", "B"]), answers_of_sequence, ("picks",)),
    (lambda: tell(GAPPED, [("make", "A"), ("make", "A")], [0, 1]), answers_of_run, ()),
    (lambda: Ends(GAPPED, "A"), answers_of_ends, ()),
    (lambda: GAPPED.extended("class H(A) { init { super; } }"), answers_of_family, ()),
)


def changeable(thing):
    """The names of the attributes of an object that are lists or dicts and that it does not keep for itself."""
    return tuple(sorted([name for name, value in vars(thing).items() if name[0] != "_" and isinstance(value, (list, dict))]))


def spoil(value):
    """Changes what a list or a dict has, and gives it more."""
    if isinstance(value, list):
        value.clear()
        value.append(("make", "Zz"))
    else:
        for key in value:
            value[key] = ()
        value["Zz"] = (1, 0)


class ApartTest(unittest.TestCase):
    def test_only_these_attributes_can_be_changed(self):
        for make, answers, names in ROWS:
            self.assertEqual(changeable(make()), tuple(sorted(names)))
        for thing in new_watched():
            self.assertEqual(changeable(thing), ())

    def test_a_spoiled_attribute_changes_no_other_answer(self):
        for make, answers, names in ROWS:
            for name in names:
                thing = make()
                before = answers(thing)
                others = {other: repr(vars(thing)[other]) for other in names if other != name}
                spoil(vars(thing)[name])
                self.assertEqual(answers(thing), before, name)
                self.assertEqual({other: repr(vars(thing)[other]) for other in others}, others, name)

    def test_an_emptied_attribute_changes_no_other_answer(self):
        for make, answers, names in ROWS:
            thing = make()
            before = answers(thing)
            for name in names:
                vars(thing)[name].clear()
            self.assertEqual(answers(thing), before, names)

    def test_a_spoiled_attribute_changes_no_other_object(self):
        for make, answers, names in ROWS:
            one, other = make(), make()
            for name in names:
                before = repr(vars(other)[name])
                spoil(vars(one)[name])
                self.assertEqual(repr(vars(other)[name]), before, name)
                self.assertEqual(repr(vars(make())[name]), before, name)
            self.assertEqual(answers(one), answers(other))

    def test_a_spoiled_answer_changes_no_later_one(self):
        family, ends = GAPPED.extended("class H(A) { init { super; } }"), Ends(GAPPED, "A")
        before = answers_of_family(family), answers_of_ends(ends)
        spoil(family.all_keys())
        spoil(ends.listed())
        for end in ends:
            spoil(ends.picks_to(end))
        self.assertEqual((answers_of_family(family), answers_of_ends(ends)), before)
        watched = new_watched()
        before = answers_of_watched(watched)
        spoil(watched[1].listed())
        self.assertEqual(answers_of_watched(watched), before)


if __name__ == "__main__":
    unittest.main()
