"""Heirs that do what solved rows of heirs do on their ways."""

from earlyfields.plays import legs_of
from earlyfields.texts import write_steps
from earlyfields.words import CAPITAL, SMALL


class Part:
    """The member of heirs at a place of a world: the texts of what it does behind a first `super`, each once."""

    def __init__(self, member):
        self.tied = member.tied
        self.scripts = []

    def number_of(self, script):
        """The index of a text, which is added if it is new."""
        if script not in self.scripts:
            self.scripts.append(script)
        return self.scripts.index(script)

    def body_text(self):
        """The text of a body whose next pick behind a first `super` chooses what it does."""
        texts = ["super;"] if self.tied else []
        if len(self.scripts) > 1:
            texts.append("either " + " or ".join(["{ " + script + " }" for script in self.scripts]))
        else:
            texts.extend(self.scripts)
        return " ".join(texts)


class Cast:
    """The heirs of some worlds; tops has the class that is made in each of these."""

    def __init__(self, family, traces):
        self.traces = traces
        self.parts = {}
        self.numbers = {}
        self.tops = {}
        self.lines = []
        names = [first + second for first in CAPITAL for second in SMALL]
        self.names = [name for name in names if name not in family]

    def add_row(self, row, end):
        """Adds what a row does on its way to an end."""
        member = row.role
        place = (member.world.name, member.place, member.key)
        if place not in self.parts:
            self.parts[place] = Part(member)
        legs = legs_of(self.traces, row, end)
        if first_legs(member) == 1:
            # Behind a `super` that fails or shows a gap it does nothing.
            if legs[0][2] >= self.traces.space.size:
                return
            legs = legs[1:]
        self.numbers[(row, end)] = self.parts[place].number_of(script_of(legs, end, self.traces.space.size))

    def picks_for(self, row, end):
        """The picks that a row takes for itself on its way to an end, one or none."""
        member = row.role
        part = self.parts[(member.world.name, member.place, member.key)]
        if (row, end) in self.numbers and len(part.scripts) > 1:
            return [self.numbers[(row, end)]]
        return []

    def add_world(self, world):
        """Adds the classes of the heirs in a world, from the last place on."""
        named = {}
        for place in range(len(world.line), -1, -1):
            keys = [key for name, at, key in self.parts if name == world.name and at == place]
            if place == 0 or len(keys) > 0:
                named[place] = self.names[len(self.lines)]
                bodies = [key + " { " + self.parts[(world.name, place, key)].body_text() + " }" for key in sorted(keys)]
                self.lines.append(class_text(named[place], bases_of(world.line, place, named), bodies))
        self.tops[world.name] = named[0]


def first_legs(member):
    """How many actions of a member of heirs, one or none, are a first `super` that executes something."""
    return 1 if member.tied and member.behind is not None else 0


def script_of(legs, end, size):
    """The text of actions behind which a member comes to an end, one of so many states."""
    failing = size <= end < 2 * size
    steps = []
    for number, (step, callee, bit) in enumerate(legs):
        if callee is not None and size <= bit < 2 * size:
            if failing and number == len(legs) - 1:
                failing = False
            else:
                step = ("try", (step,), ())
        steps.append(step)
    if failing:
        steps.append(("fail",))
    return write_steps(tuple(steps))


def bases_of(line, place, named):
    """The bases by which a class has the order of the heirs at a place: old classes up to the next heirs."""
    bases = []
    for at in range(place, len(line)):
        bases.append(line[at])
        if at + 1 in named:
            return bases + [named[at + 1]]
    return bases


def class_text(name, bases, bodies):
    """The text of a class with these bases and members."""
    head = "class " + name
    if len(bases) > 0:
        head = head + "(" + ", ".join(bases) + ")"
    return " ".join([head, "{"] + bodies + ["}"])
