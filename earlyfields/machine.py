"""What steps and deeds change: objects, shared names, events, and the picks that are left."""

from earlyfields.errors import BadLimit, Gap, Long
from earlyfields.frames import Born, Frame

HIGHEST = 2000


def check_limit(value):
    """Makes sure that any value is a limit."""
    if isinstance(value, bool) or not isinstance(value, int) or not 1 <= value <= HIGHEST:
        raise BadLimit(value)


class Machine:
    """The state of a maker: what stays from call to call, and what each call begins anew.

    What stays are the shared names that have a value (the keys of given), the object that was made (thing, or
    None), how many objects were born and how many events there were, and the watchers. A call has its picks and
    how many of them are taken, its limit (most) and its events.
    """

    def __init__(self, family, shared):
        self.family = family
        self.commons = {name: True for name in family.shared}
        self.given = {name: True for name in shared}
        self.thing = None
        self.births = 0
        self.total = 0
        self.watchers = []
        self.picks = ()
        self.taken = 0
        self.most = 0
        self.events = []

    def begin(self, picks, most):
        """Begins a call with these picks and this limit."""
        self.picks = tuple(picks)
        self.taken = 0
        self.most = most
        self.events = []

    def take_pick(self, many):
        """The next pick, modulo a number."""
        if self.taken == len(self.picks):
            return 0
        self.taken = self.taken + 1
        return self.picks[self.taken - 1] % many

    def begin_step(self, frame):
        """The next step of a frame, which begins and is noted, if the limit allows."""
        if len(self.events) == self.most:
            raise Long(self.most)
        step = frame.advance()
        event = (frame.thing.number, frame.owner, frame.key, frame.path, step[0])
        self.events.append(event)
        self.total = self.total + 1
        # A copy, since a watcher may add watchers.
        for watcher in list(self.watchers):
            watcher.note(event)
        return step

    def bear(self, kind):
        """A new object of a class."""
        self.births = self.births + 1
        return Born(self.births - 1, kind, {name: True for name in self.family.birth(kind)})

    def has_value(self, thing, name):
        """Whether a name has a value for an object."""
        return name in thing.own or name in self.given

    def keep(self, thing, name):
        """Gives a name its value."""
        if name in self.commons:
            self.given[name] = True
        else:
            thing.own[name] = True

    def look(self, thing, name, where):
        """Shows a gap at a place if a name has no value for an object."""
        if not self.has_value(thing, name):
            owner, key, path = where
            raise Gap(name, owner, key, path)

    def member(self, thing, owner, key):
        """The frame of a member of a class, for an object; None for no class."""
        if owner is None:
            return None
        return Frame(thing, owner, key, (), self.family.body(owner, key))

    def found_member(self, thing, key):
        """The frame of the member that is found for an object, or None."""
        return self.member(thing, self.family.found(thing.kind, key), key)

    def owned_names(self):
        """The names that the object owns, ascending, or None."""
        if self.thing is None:
            return None
        return tuple(sorted(self.thing.own))

    def valued_names(self):
        """The shared names that have a value as such, ascending."""
        return tuple(sorted(self.given))
