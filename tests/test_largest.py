"""The largest families that are judged: up to 65 old orders, five classes, five names, four methods and 200 steps."""

import random

from earlyfields.bounds import step_count
from earlyfields.checking import is_derivation, is_floor
from earlyfields.errors import EarlyError
from earlyfields.families import Family
from earlyfields.judging import judge
from earlyfields.makings import Sequence
from earlyfields.orders import old_orders
from earlyfields.reliance import early, sure
from earlyfields.seals import least_seals, least_shows
from earlyfields.stories import is_lawful, tell
from tests.helpers import Case

NAMES, METHODS = "abcde", "mnpq"
FREE = {name: "" for name in "ABCD"}
CHAIN = {"A": "", "B": "A", "C": "B", "D": "C", "E": "D"}
FOREST = {"A": "", "B": "A", "C": "A", "D": "", "E": "D"}
TREE = {"A": "", "B": "A", "C": "A", "D": "A", "E": "B"}
KEYS = ["init"] + ["method " + method for method in METHODS]


def guarded(rng):
    """A step that looks only at a name that has a value, with another one around it."""
    name = rng.choice(NAMES)
    return "if %s { %s %s; } else { }" % (name, rng.choice(["look", "keep"]), name)


def body_of(rng, many, classes):
    """The text of a body of so many steps."""
    texts = []
    while many > 0:
        word = rng.choice(["set", "set", "keep", "call", "call", "call", "super", "super", "guard", "try", "either", "loop", "make"])
        if word in ("set", "keep"):
            texts.append("%s %s;" % (word, rng.choice(NAMES)))
        elif word == "call":
            texts.append("call %s;" % rng.choice(METHODS))
        elif word == "make":
            texts.append("make %s;" % rng.choice(classes))
        elif word == "super" or many < 3:
            texts.append("super;")
        elif word == "guard":
            texts.append(guarded(rng))
            many -= 1
        else:
            call, keep = "call %s;" % rng.choice(METHODS), "set %s;" % rng.choice(NAMES)
            texts.append({"try": "try { %s } catch { %s }", "either": "either { %s } or { %s }", "loop": "loop { %s %s }"}[word] % (call, keep))
            many -= 2
        many -= 1
    return " ".join(texts)


def largest(rng, tree, keys, shared):
    """A family of 200 steps with these bases."""
    many = 200 // (len(tree) * len(keys))
    rows = []
    for owner, bases in tree.items():
        members = ["%s { %s }" % (key, body_of(rng, many, list(tree))) for key in keys]
        if owner == "A":
            members[0] = "init { %s %s" % ("super; " * (200 - many * len(tree) * len(keys)), members[0][len("init { "):])
        rows.append("class %s%s { %s }" % (owner, "(%s)" % bases if bases else "", " ".join(members)))
    return Family(("shared %s; " % ", ".join(shared) if shared else "") + " ".join(rows))



class LargestTest(Case):
    def check(self, family, orders):
        """The verdict of a family at the bounds, whose parts are as the document says."""
        self.assertEqual((len(old_orders(family)), len(family.methods), step_count(family)), (orders, 4, 200))
        verdict = judge(family)
        self.assertIs(is_floor(family, verdict.floor), True)
        if verdict.steps is not None:
            self.assertIs(is_derivation(family, verdict.derivation), True)
        if verdict.extension is not None:
            self.assertIs(is_lawful(verdict.extension, verdict.story), True)
            run = tell(verdict.extension, verdict.story, verdict.picks, limit=2000)
            self.assertEqual((run.outcome, run.old_steps(family.classes)), ("gap", verdict.steps))
        return verdict

    def test_free_classes(self):
        family = largest(random.Random(1), FREE, KEYS, "")
        self.assertEqual(len(family.names), 5)
        self.check(family, 65)

    def test_shared_names(self):
        self.check(largest(random.Random(2), FREE, KEYS, "ab"), 65)

    def test_setters_and_getters(self):
        self.check(largest(random.Random(3), FREE, KEYS + ["setter a", "setter b", "getter a"], "b"), 65)

    def test_chains_and_trees_of_five_classes(self):
        for tree, orders in ((CHAIN, 6), (FOREST, 59), (TREE, 36)):
            self.check(largest(random.Random(4), tree, KEYS, "c"), orders)

    def test_with_a_gap(self):
        text = str(largest(random.Random(5), FREE, KEYS, ""))
        for old, new in (("super; ", "look e; "), ("set e;", "look e;")):
            self.check(Family(text.replace(old, new, 1)), 65)

    def test_one_class_more(self):
        family = largest(random.Random(6), FREE, KEYS, "")
        with self.assertRaises(EarlyError):
            judge(Family(str(family) + "\nclass E { }"))

    def test_reliance_and_seals(self):
        family = largest(random.Random(7), TREE, KEYS + ["setter a"], "a")
        for owner in "AE":
            self.assertEqual(set(early(family, owner)) - set(sure(family, owner)), set())
        least_seals(family)
        least_shows(family)

    def test_makings_of_ten_classes(self):
        rows = []
        for at, name in enumerate("ABCDEFGHIJ"):
            base = "(%s)" % "ABCDEFGHIJ"[at - 1] if at else ""
            choice = "either { keep %s; } or { keep %s; } " % (NAMES[at % 5], NAMES[at // 2])
            rows.append("class %s%s { init { super; %s } }" % (name, base, choice * 9))
        sequence = Sequence(Family(" ".join(rows)), ["J", "I", "H", "J", "A"])
        self.assertIs(bool(sequence), True)
