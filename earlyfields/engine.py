"""Makers, which make objects of a family and do deeds with them."""

from earlyfields.acting import do_deed
from earlyfields.deeds import is_deed
from earlyfields.errors import BadDeed, BadName, NoClass, NoObject
from earlyfields.machine import Machine, check_limit


class Maker:
    """Makes objects one after another; its object is the last one that was made without failing."""

    def __init__(self, family, *, limit=200, shared=()):
        check_limit(limit)
        for name in shared:
            if name not in family.shared:
                raise BadName(name)
        self._machine = Machine(family, shared)
        self._most = limit

    @property
    def limit(self):
        """How many events each call may have."""
        return self._most

    @limit.setter
    def limit(self, value):
        check_limit(value)
        self._most = value

    def change(self, limit):
        """Assigns the limit."""
        self.limit = limit

    def watch(self, watcher):
        """From now on the watcher notes each event as its step begins."""
        self._machine.watchers.append(watcher)

    def make(self, owner, picks=()):
        """Makes an object of any value that is a class; whether that did not fail."""
        if owner not in self._machine.family:
            raise NoClass(owner)
        return self._begin(("make", owner), picks)

    def use(self, deed, picks=()):
        """Does any value that is a deed; whether it did not fail."""
        if not is_deed(self._machine.family, deed):
            raise BadDeed(0)
        if deed[0] != "make" and self._machine.thing is None:
            raise NoObject()
        return self._begin(deed, picks)

    def _begin(self, deed, picks):
        """Does a deed that can be done, with picks of its own."""
        self._machine.begin(picks, self._most)
        return do_deed(self._machine, deed)

    @property
    def current_shared(self):
        """The shared names that have a value as such, ascending."""
        return self._machine.valued_names()

    @property
    def current_own(self):
        """The names that the object owns, ascending, or None without an object."""
        return self._machine.owned_names()

    @property
    def current_class(self):
        """The class of the object, or None without one."""
        if self._machine.thing is None:
            return None
        return self._machine.thing.kind

    @property
    def event_count(self):
        """How many events there were since the maker was created."""
        return self._machine.total

    def walk(self):
        """The events of the last call, as they are when the iteration begins."""
        for event in list(self._machine.events):
            yield event
