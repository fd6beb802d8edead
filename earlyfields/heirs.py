"""Whether the heirs in an extension are lawful, once the whole is known to be sound."""

from earlyfields.errors import NotLawful
from earlyfields.steps import begins_with_super, steps_with_paths
from earlyfields.words import is_accessor

HEIR_STEPS = ("super", "call", "set", "read", "fail", "try", "if", "either", "loop")


def check_heir(part, olds, names):
    """Raises NotLawful if an heir is not lawful.

    olds are the class parts of the old classes among its ancestors, names the names of the old family.
    """
    if any([name in names for name in part.born]):
        raise NotLawful(part.name, "value", ())
    if len(part.vows) > 0:
        raise NotLawful(part.name, "promise", ())
    for key in sorted(part.own):
        body = part.own[key][1]
        if not may_have(key, body, olds):
            raise NotLawful(part.name, key, ())
        check_steps(part.name, key, body, olds)


def may_have(key, body, olds):
    """Whether an heir may have a member with a key that begins as this body does."""
    if is_accessor(key):
        return any([key in old.own for old in olds])
    return key != "init" or begins_with_super(body)


def check_steps(owner, key, body, olds):
    """Raises NotLawful for the first step that may not stand in a member of the heir owner."""
    readable = {}
    for old in olds:
        for name in old.vows.get(key, ()):
            readable[name] = True
    for path, step in steps_with_paths(body):
        if step[0] not in HEIR_STEPS or (step[0] == "read" and step[1] not in readable):
            raise NotLawful(owner, key, path)
