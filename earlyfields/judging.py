"""Judging families: whether some lawful extension shows a gap, and after how many steps of old bodies."""

from earlyfields.bounds import check_judged
from earlyfields.derivations import derivation_of
from earlyfields.families import Family
from earlyfields.floors import floor_of
from earlyfields.solved import Solved
from earlyfields.tracing import Traces
from earlyfields.witnesses import Witness

# Up to so many steps a verdict has an extension that shows the gap.
SHOWN = 20


class Verdict:
    """Whether a family is safe, and what shows that it is, or that it is not."""

    def __init__(self, solved):
        self.steps = solved.fewest_steps()
        self.floor = floor_of(solved.model, solved.lives, self.steps)
        self.derivation = None
        self.extension = None
        self.story = None
        self.picks = None
        if self.steps is not None:
            traces = Traces(solved.model.space)
            self.derivation = derivation_of(traces, solved.lives, solved.gap)
            if self.steps <= SHOWN:
                witness = Witness(solved.model.family, traces, solved.lives, solved.gap)
                self.extension = witness.extension
                self.story = witness.story
                self.picks = witness.picks

    def __bool__(self):
        return self.steps is None

    def __str__(self):
        if self.steps is None:
            return "safe"
        return f"gap after {self.steps}"


def judge(family, *, sealed=()):
    """The verdict about a family, of which heirs leave the sealed keys alone."""
    orders = check_judged(family, sealed)
    return Verdict(Solved(Family(str(family)), orders, sealed, False))
