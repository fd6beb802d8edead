"""Points 9 to 14 once more, in another way: by recursion, and by Python's own classes and errors."""


class Failing(Exception):
    """A body fails."""


class Showing(Exception):
    """A gap, with its name, class, key and path."""


class Ending(Exception):
    """The limit."""


class Thing:
    """An object with a number, a class and the names that it owns."""

    def __init__(self, number, kind, own):
        self.number, self.kind, self.own = number, kind, set(own)


class Reference:
    """What a maker is to do."""

    def __init__(self, family, shared=()):
        self.orders = {name: family.order(name) for name in family.classes}
        self.bodies = {(name, key): family.body(name, key) for name in family.classes for key in family.own_keys(name)}
        self.values = {name: {word for owner in family.order(name) for word in family.class_values(owner)} for name in family.classes}
        self.commons, self.common = set(family.shared), set(shared)
        self.births, self.thing, self.events, self.picks, self.left = 0, None, [], iter(()), 0

    def begin(self, picks, limit):
        """A new call, or a new story."""
        self.events, self.picks, self.left = [], iter(picks), limit

    def do(self, deed):
        """What a maker returns for a deed, or the gap or limit as a tuple."""
        try:
            if deed[0] == "make":
                self.thing = None
                self.thing = self.make(deed[1])
            else:
                self.simple(self.thing, None, None, (), deed)
            return True
        except Failing:
            return False
        except Showing as error:
            self.thing = None
            return ("gap",) + error.args
        except Ending:
            self.thing = None
            return ("long",)

    def own(self):
        """What the object owns."""
        return None if self.thing is None else tuple(sorted(self.thing.own))

    def make(self, kind):
        """A new object."""
        thing = Thing(self.births, kind, self.values[kind])
        self.births += 1
        self.first(thing, self.orders[kind], "init")
        return thing

    def first(self, thing, owners, key):
        """Executes the first member; whether there is one."""
        for owner in owners:
            if (owner, key) in self.bodies:
                self.body(thing, owner, key, (), self.bodies[owner, key])
                return True
        return False

    def body(self, thing, owner, key, ahead, steps):
        """Executes a body or a block."""
        for index, step in enumerate(steps):
            path = ahead + (index,)
            while True:
                if self.left == 0:
                    raise Ending
                self.left -= 1
                self.events.append((thing.number, owner, key, path, step[0]))
                self.note(thing, self.events[-1])
                if step[0] != "loop" or next(self.picks, 0) % 2 == 0:
                    break
                self.body(thing, owner, key, path + (0,), step[1])
            self.step(thing, owner, key, path, step)

    def note(self, thing, event):
        """A step begins."""

    def step(self, thing, owner, key, path, step):
        """A step but a loop."""
        word = step[0]
        if word == "fail":
            raise Failing
        if word == "if":
            number = 0 if self.known(thing, step[1]) else 1
            self.body(thing, owner, key, path + (number,), step[2 + number])
        elif word == "either":
            number = next(self.picks, 0) % len(step[1])
            self.body(thing, owner, key, path + (number,), step[1][number])
        elif word == "try":
            try:
                self.body(thing, owner, key, path + (0,), step[1])
            except Failing:
                self.body(thing, owner, key, path + (1,), step[2])
        elif word != "loop":
            self.simple(thing, owner, key, path, step)

    def simple(self, thing, owner, key, path, step):
        """A step without blocks, or a deed."""
        word, about = (step + (None,))[:2]
        order = self.orders[thing.kind]
        kind, name, done = word, about, False
        if word == "call":
            self.first(thing, order, "method " + about)
        elif word == "make":
            self.make(about)
        elif word in ("set", "read"):
            done = self.first(thing, order, {"set": "setter ", "read": "getter "}[word] + about)
        elif word in ("super", "of"):
            done = self.first(thing, order[order.index(owner) + 1:] if word == "super" else self.orders[about], key)
            kind, name = (key.split() + [None])[:2]
        if done:
            return
        if kind in ("set", "keep", "setter"):
            (self.common if name in self.commons else thing.own).add(name)
        elif kind in ("read", "look", "getter") and not self.known(thing, name):
            raise Showing(name, owner, key, path)

    def known(self, thing, name):
        """Whether a name has a value."""
        return name in thing.own or name in self.common
