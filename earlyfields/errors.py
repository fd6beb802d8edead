"""The errors of the package. Each one keeps what it is made with under the names of its parameters."""


class EarlyError(ValueError):
    """What all errors about arguments have in common."""


class BadText(EarlyError):
    """A text cannot go on at a position as it began; -1 stands for what is no string."""

    def __init__(self, at):
        self.at = at


class TooMany(EarlyError):
    """There is more of something than the bounds allow."""

    def __init__(self, what):
        self.what = what


class Twice(EarlyError):
    """A class, a base or a key stands a second time."""

    def __init__(self, name):
        self.name = name


class NoClass(EarlyError):
    """A value is no class that may stand there."""

    def __init__(self, name):
        self.name = name


class NoOrder(EarlyError):
    """The bases of a class cannot be merged."""

    def __init__(self, name):
        self.name = name


class NotABase(EarlyError):
    """A step `of` names no ancestor of the class in which it stands."""

    def __init__(self, owner, key, path):
        self.owner = owner
        self.key = key
        self.path = path


class Final(EarlyError):
    """In the order of a class, something stands ahead of a final member."""

    def __init__(self, name, key):
        self.name = name
        self.key = key


class NotChained(EarlyError):
    """In the order of a class, a member ahead of a chained one does not begin with `super`."""

    def __init__(self, name, key):
        self.name = name
        self.key = key


class NotLawful(EarlyError):
    """An heir has a part or a step that no heir may have."""

    def __init__(self, owner, key, path):
        self.owner = owner
        self.key = key
        self.path = path


class BadKey(EarlyError):
    """A value is no key that may stand there."""

    def __init__(self, key):
        self.key = key


class BadName(EarlyError):
    """A value is no name that may stand there."""

    def __init__(self, name):
        self.name = name


class BadOrder(EarlyError):
    """A value is no order that may stand there."""

    def __init__(self, value):
        self.value = value


class BadDeed(EarlyError):
    """The entry of a story at an index is no deed."""

    def __init__(self, at):
        self.at = at


class BadLimit(EarlyError):
    """A value is no limit."""

    def __init__(self, value):
        self.value = value


class Far(EarlyError):
    """An end comes after more steps than are listed."""

    def __init__(self, steps):
        self.steps = steps


class Gap(RuntimeError):
    """A name was looked at before it had a value."""

    def __init__(self, name, owner, key, path):
        self.name = name
        self.owner = owner
        self.key = key
        self.path = path


class Long(RuntimeError):
    """A step would have begun beyond the limit."""

    def __init__(self, most):
        self.most = most


class NoObject(RuntimeError):
    """There is no object with which something could be done."""


class NoEnd(LookupError):
    """A value is none of the ends."""

    def __init__(self, end):
        self.end = end
