"""Families of classes, and their extensions by heirs."""

from earlyfields.errors import BadKey, BadName, NoClass, TooMany
from earlyfields.heirs import check_heir
from earlyfields.parts import class_line, family_text, methods_in, names_in, promise_text
from earlyfields.parts import read_family, read_heirs, steps_in
from earlyfields.soundness import sound_orders
from earlyfields.texts import is_key, is_word
from earlyfields.words import is_accessor


class Family:
    """A sound family: its classes with their orders and members."""

    MOST_CLASSES = 50
    MOST_NAMES = 10
    MOST_STEPS = 1000

    def __init__(self, text):
        shared, parts = read_family(text)
        names = names_in(shared, parts)
        if len(parts) > Family.MOST_CLASSES:
            raise TooMany("classes")
        if len(names) > Family.MOST_NAMES:
            raise TooMany("names")
        if len(steps_in(parts)) > Family.MOST_STEPS:
            raise TooMany("steps")
        self._orders = sound_orders(parts)
        self._parts = {part.name: part for part in parts}
        self._text = family_text(shared, [class_line(part) for part in parts])
        self.classes = tuple([part.name for part in parts])
        self.names = names
        self.methods = methods_in(parts)
        self.shared = shared

    @classmethod
    def of(cls, *texts):
        """The family of the texts, joined with line feeds."""
        # Not cls(..): called off Extension, too, what comes of texts alone is a Family.
        return Family("\n".join(texts))

    def _part(self, name):
        """The class part of any value that is a class of the family."""
        if name not in self:
            raise NoClass(name)
        return self._parts[name]

    def order(self, name):
        """The order of a class."""
        return self._orders[self._part(name).name]

    def bases(self, name):
        """The bases of a class as they are written."""
        return self._part(name).parents

    def birth(self, name):
        """The names that an object of a class owns at birth, ascending."""
        owned = {}
        for owner in self.order(name):
            for word in self._parts[owner].born:
                owned[word] = True
        return tuple(sorted(owned))

    def class_values(self, name):
        """The class values of the class itself, ascending."""
        return self._part(name).born

    def own_keys(self, name):
        """The keys of the members of the class itself, ascending."""
        return tuple(sorted(self._part(name).own))

    def _member(self, name, key):
        """The pair (grade, body) of the member of a class with any value as its key."""
        own = self._part(name).own
        if not isinstance(key, str) or key not in own:
            raise BadKey(key)
        return own[key]

    def grade(self, name, key):
        """The grade of a member of the class itself."""
        return self._member(name, key)[0]

    def body(self, name, key):
        """The body of a member of the class itself."""
        return self._member(name, key)[1]

    def _first_with(self, owners, key):
        """The first of some classes that has a member with any value that is a key, or None."""
        if not is_key(key):
            raise BadKey(key)
        for owner in owners:
            if key in self._parts[owner].own:
                return owner
        return None

    def found(self, name, key):
        """The class in which a key is found for objects of a class, or None."""
        return self._first_with(self.order(name), key)

    def after(self, name, owner, key):
        """The first class behind owner in the order of a class that has a member with a key, or None."""
        order = self.order(name)
        if not isinstance(owner, str) or owner not in order:
            raise NoClass(owner)
        return self._first_with(order[order.index(owner) + 1:], key)

    def promise(self, name, key):
        """The names that the class itself promises for a key, ascending."""
        vows = self._part(name).vows
        if not is_key(key):
            raise BadKey(key)
        return vows.get(key, ())

    def all_keys(self):
        """The keys of the family, ascending."""
        keys = {"init": True}
        for method in self.methods:
            keys["method " + method] = True
        for name in self.classes:
            for key in self._parts[name].own:
                if is_accessor(key):
                    keys[key] = True
        return sorted(keys)

    def promised(self, name, key, names):
        """The family in which a class promises the names for a key, too."""
        part = self._part(name)
        if not is_key(key):
            raise BadKey(key)
        for word in names:
            if not is_word(word):
                raise BadName(word)
        if len(names) == 0:
            return Family(str(self))
        lines = [class_line(self._parts[owner]) for owner in self.classes]
        at = self.classes.index(part.name)
        pieces = lines[at].partition("{")
        lines[at] = pieces[0] + "{ " + promise_text(key, names) + pieces[2]
        return Family(family_text(self.shared, lines))

    def extended(self, text):
        """The extension of this family by the heirs in any value that is their text."""
        return Extension(self, text)

    def __len__(self):
        return len(self.classes)

    def __contains__(self, thing):
        return isinstance(thing, str) and thing in self._parts

    def __str__(self):
        return str(self._text)

    def __eq__(self, other):
        return isinstance(other, Family) and self._text == other._text


class Extension(Family):
    """A family, the old one, with heirs behind its classes, by which it is lawful."""

    def __init__(self, family, text):
        # Read alone first, so that positions count in this text and nothing but classes fits.
        added = tuple([part.name for part in read_heirs(text)])
        Family.__init__(self, str(family) + "\n" + text)
        if isinstance(family, Extension):
            self.family = Family(str(family.family))
            self.heirs = family.heirs + added
        else:
            self.family = Family(str(family))
            self.heirs = added
        for heir in self.heirs:
            olds = [self._parts[owner] for owner in self.old_order(heir)]
            check_heir(self._parts[heir], olds, self.family.names)

    def old_order(self, name):
        """The order of a class without the heirs."""
        return tuple([owner for owner in self.order(name) if owner not in self.heirs])

    def heir_text(self):
        """The lines of the canonical text for the heirs."""
        return "\n".join([class_line(self._parts[heir]) for heir in self.heirs])
