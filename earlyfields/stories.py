"""Stories: deeds that a new maker does one after another."""

from earlyfields.acting import do_deed
from earlyfields.deeds import is_deed
from earlyfields.errors import BadDeed, Gap, Long
from earlyfields.machine import Machine, check_limit


class Run:
    """What came of a story. The machine is the one that did it."""

    def __init__(self, machine, outcome, at, gap, failed):
        self.outcome = outcome
        self.at = at
        self.gap = gap
        self.events = tuple(machine.events)
        self.steps = len(machine.events)
        self.failed = tuple(failed)
        self.own = machine.owned_names()
        self.shared = machine.valued_names()

    def old_steps(self, classes):
        """How many events stand in bodies of these classes."""
        return len([owner for number, owner, key, path, word in self.events if owner in classes])


def tell(family, story, picks=(), *, limit=200):
    """The run of a story with these picks and this limit."""
    for at, deed in enumerate(story):
        if not is_deed(family, deed):
            raise BadDeed(at)
    check_limit(limit)
    machine = Machine(family, ())
    machine.begin(picks, limit)
    failed = []
    for at, deed in enumerate(story):
        if deed[0] != "make" and machine.thing is None:
            continue
        try:
            if not do_deed(machine, deed):
                failed.append(at)
        except Gap as shown:
            return Run(machine, "gap", at, (shown.name, shown.owner, shown.key, shown.path), failed)
        except Long:
            return Run(machine, "long", at, None, failed)
    return Run(machine, "done", len(story), None, failed)


def is_lawful(family, story):
    """Whether any values are the deeds of a lawful story."""
    made = None
    for deed in story:
        if not is_deed(family, deed):
            return False
        if deed[0] == "make":
            made = deed[1]
        elif deed[0] == "read" and not may_read(family, made, deed[1]):
            return False
    return True


def may_read(family, made, name):
    """Whether a name may be read where the last making makes an object of the class made, or None."""
    if made is None:
        return False
    return any([name in family.promise(owner, "init") for owner in family.order(made)])
