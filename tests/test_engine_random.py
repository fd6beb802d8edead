"""Makers and stories by chance, compared with the reference, which does the same in another way."""

import random

from earlyfields.engine import Maker
from earlyfields.errors import EarlyError, NoObject
from earlyfields.families import Family
from earlyfields.stories import tell
from earlyfields.watchers import Report
from tests.helpers import Case, result_of
from tests.reference import Reference
from tests.test_random import NAMES, bases_by_chance, class_text

WORDS = ("set", "keep", "read", "look", "call", "super", "of", "make", "fail", "try", "if", "either", "loop")
OFTEN = WORDS + ("super", "call", "set", "read", "keep", "keep", "call", "super")


def step_by_chance(rng, olds, depth):
    """The text of a step in a class with these ancestors."""
    word = rng.choice(OFTEN if depth < 3 else OFTEN[:8])
    if word in ("set", "keep", "read", "look"):
        # Names are looked at seldom, since that mostly ends everything.
        word = word if rng.random() < 0.5 else "keep"
        return "%s %s;" % (word, rng.choice("abs"))
    if word == "call":
        return "call %s;" % rng.choice("mnq")
    if word == "of":
        return "of %s;" % rng.choice(olds) if olds else "super;"
    if word == "make":
        return "make %s;" % rng.choice("ABCD")
    if word in ("super", "fail"):
        return word + ";"
    blocks = ["{ " + body_by_chance(rng, olds, depth + 1) + " }" for _ in range(rng.randint(2, 4))]
    return {"try": "try %s catch %s" % tuple(blocks[:2]), "if": "if %s %s else %s" % (rng.choice("abs"), blocks[0], blocks[1]),
            "either": "either " + " or ".join(blocks), "loop": "loop " + blocks[0]}[word]


def body_by_chance(rng, olds, depth=0):
    """The text of a body."""
    return " ".join([step_by_chance(rng, olds, depth) for _ in range(rng.choice([0, 1, 1, 2, 3]))])


def family_by_chance(rng):
    """A sound family of four classes."""
    while True:
        bases = bases_by_chance(rng, 4)
        try:
            bare = Family("".join([class_text(name, parents) for name, parents in zip(NAMES, bases)]))
        except EarlyError:
            continue
        rows = []
        for name, parents in zip(NAMES, bases):
            parts = ["value %s;" % rng.choice("abs")] if rng.random() < 0.2 else []
            for key in ("init", "method m", "method n", "setter a", "getter a", "setter s", "getter b"):
                if rng.random() < 0.5:
                    parts.append(key + " { " + body_by_chance(rng, bare.order(name)[1:]) + " }")
            rows.append(class_text(name, parents, " ".join(parts)))
        return Family("shared s;" + "".join(rows))


def deed_by_chance(rng):
    """A deed."""
    word = rng.choice(("make", "call", "set", "read"))
    return word, rng.choice({"make": "ABCD", "call": "mnq"}.get(word, "absz"))


def picks_by_chance(rng):
    """A few picks of any size and either sign."""
    return [rng.choice([0, 1, 1, 1, 2, 3, -1, -2, 10 ** 29, 10 ** 29 + 1, -10 ** 29 - 1]) for _ in range(rng.choice([0, 3, 10, 30]))]


class EngineTest(Case):
    def test_makers(self):
        rng = random.Random(5)
        results = []
        for _ in range(400):
            family = family_by_chance(rng)
            shared = rng.choice([(), ("s",)])
            maker, reference, report = Maker(family, shared=shared), Reference(family, shared), Report()
            maker.watch(report)
            many = 0
            for _ in range(12):
                deed, picks, limit = deed_by_chance(rng), picks_by_chance(rng), rng.choice([1, 2, 5, 10, 60])
                maker.limit = limit
                if deed[0] != "make" and reference.thing is None:
                    self.fails(lambda: maker.use(deed, picks), NoObject)
                    continue
                reference.begin(picks, limit)
                result = reference.do(deed)
                self.assertEqual(result_of(lambda: maker.use(deed, picks)), result + (limit,) if result == ("long",) else result)
                self.assertEqual(list(maker.walk()), reference.events)
                self.assertEqual((maker.current_own, maker.current_shared), (reference.own(), tuple(sorted(reference.common))))
                self.assertEqual(maker.current_class, reference.thing and reference.thing.kind)
                many += len(reference.events)
                results.append(result if isinstance(result, bool) else result[0])
            self.assertEqual((maker.event_count, report.many), (many, many))
        self.assertTrue(min([results.count(kind) for kind in (True, False, "gap", "long")]) > 100)

    def test_stories(self):
        rng = random.Random(6)
        outcomes = []
        for _ in range(1500):
            family = family_by_chance(rng)
            story = [deed_by_chance(rng) for _ in range(rng.randint(0, 8))]
            picks, limit = picks_by_chance(rng), rng.choice([1, 5, 20, 100])
            run = tell(family, story, picks, limit=limit)
            expected = self.told(family, story, picks, limit)
            self.assertEqual((run.outcome, run.at, run.gap, run.failed, run.own, run.shared, run.events), expected)
            self.assertEqual(run.steps, len(run.events))
            for classes in (["A"], ["B", "D"], []):
                self.assertEqual(run.old_steps(classes), len([event for event in run.events if event[1] in classes]))
            outcomes.append(run.outcome)
        self.assertTrue(min([outcomes.count(kind) for kind in ("done", "gap", "long")]) > 100)

    def told(self, family, story, picks, limit):
        """The values of a run as the reference has them."""
        reference = Reference(family)
        reference.begin(picks, limit)
        failed, outcome, at, gap = [], "done", len(story), None
        for index, deed in enumerate(story):
            if deed[0] != "make" and reference.thing is None:
                continue
            result = reference.do(deed)
            if result is False:
                failed.append(index)
            elif result is not True:
                outcome, at, gap = result[0], index, result[1:] or None
                break
        return outcome, at, gap, tuple(failed), reference.own(), tuple(sorted(reference.common)), tuple(reference.events)

    def test_they_depend_on_their_arguments_alone(self):
        rng = random.Random(7)
        for _ in range(30):
            family = family_by_chance(rng)
            text = str(family)
            story, picks = [("make", "A"), ("call", "m"), ("make", "D"), ("set", "a")], picks_by_chance(rng)
            first, second = tell(family, story, picks), tell(Family(text), tuple(story), tuple(picks))
            self.assertEqual(vars(first), vars(second))
            self.assertEqual(str(family), text)
