"""The worlds of a family: which members an object finds there, with heirs at all places."""

from earlyfields.actors import USER, Actor, Common, Life
from earlyfields.bodies import Body
from earlyfields.codes import Code
from earlyfields.spaces import Space
from earlyfields.words import is_accessor


class Model:
    """A family with its worlds.

    Heirs have members with the open keys only. If gaps are told apart, each one has a bit of its own; otherwise
    all have the same one.
    """

    def __init__(self, family, open_keys, apart):
        self.family = family
        self.open_keys = tuple(open_keys)
        self.apart = apart
        self.space = Space(family)
        self.own_keys_of = {owner: family.own_keys(owner) for owner in family.classes}
        self.gaps = {}
        self.worlds = {}
        self._codes = {}

    def code_of(self, owner, key):
        """The code of a member of a class."""
        code = self._codes.get((owner, key))
        if code is None:
            code = Code(self.family.body(owner, key))
            self._codes[(owner, key)] = code
        return code

    def gap_bit(self, gap):
        """The bit of a gap (name, owner, key, path)."""
        if not self.apart:
            return 1
        return self.gaps.setdefault(gap, 1 << len(self.gaps))

    def world_of(self, name):
        """The world of an old order, a tuple, or of a class."""
        world = self.worlds.get(name)
        if world is None:
            world = World(self, name)
            self.worlds[name] = world
        return world


class World:
    """The world of an old order, a tuple, or of a class.

    line has its classes in their order, and born is the state at birth without shared names. places are those of
    its members, in their order; heirs has for each place of heirs the keys of their members, with whether they are
    tied.
    """

    def __init__(self, model, name):
        self.model = model
        self.name = name
        self.line = name if isinstance(name, tuple) else model.family.order(name)
        values = {word: True for owner in self.line for word in model.family.class_values(owner)}
        self.born = model.space.state_of(list(values), ())
        self.places = list(self.line)
        self.heirs = {}
        if isinstance(name, tuple):
            self._add_heirs()
        self.members = {}
        self.common = Common(self)
        self.user = Actor(self, USER, "init", False, self.promised_names(0, "init"))
        self.life = Life(self)

    def _add_heirs(self):
        """Adds the places of heirs, from the last one on."""
        grades = {}
        self.places = [len(self.line)]
        self.heirs[len(self.line)] = self._heirs_keys(grades)
        for at in range(len(self.line) - 1, -1, -1):
            owner = self.line[at]
            for key in self.model.own_keys_of[owner]:
                grades.setdefault(key, {})[self.model.family.grade(owner, key)] = True
            self.places = [at, owner] + self.places
            self.heirs[at] = self._heirs_keys(grades)

    def _heirs_keys(self, grades):
        """The keys of heirs, with whether they are tied, where grades has those of the members behind them."""
        keys = {}
        for key in self.model.open_keys:
            behind = grades.get(key, {})
            if "final" not in behind and (len(behind) > 0 or not is_accessor(key)):
                keys[key] = key == "init" or "chained" in behind
        return keys

    def promised_names(self, at, key):
        """The names that the classes with an index from at on promise for a key, ascending."""
        promised = {}
        for owner in self.line[at:]:
            for name in self.model.family.promise(owner, key):
                promised[name] = True
        return sorted(promised)

    def has_member(self, place, key):
        """Whether a place has a member with a key."""
        if isinstance(place, str):
            return key in self.model.own_keys_of[place]
        return key in self.heirs[place]

    def member_at(self, place, key):
        """The member of a place with a key."""
        member = self.members.get((place, key))
        if member is None:
            if isinstance(place, str):
                member = Body(self, place, key)
            else:
                member = Actor(self, place, key, self.heirs[place][key], self.promised_names(place, key))
            self.members[(place, key)] = member
        return member

    def found(self, key):
        """The first member with a key, or None."""
        return self._first_from(0, key)

    def next_behind(self, place, key):
        """The first member with a key behind a place, or None."""
        return self._first_from(self.places.index(place) + 1, key)

    def _first_from(self, start, key):
        """The first member with a key at the places from an index on, or None."""
        for place in self.places[start:]:
            if self.has_member(place, key):
                return self.member_at(place, key)
        return None

    def found_by(self, owner, key):
        """The member with a key that the order of a class finds, or None."""
        place = self.model.family.found(owner, key)
        if place is None:
            return None
        return self.member_at(place, key)
