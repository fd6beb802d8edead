"""What members of heirs may rely on: names that are sure, and whether they are executed early."""

from earlyfields.actors import ACT
from earlyfields.bounds import check_judged
from earlyfields.errors import NoClass
from earlyfields.solved import Solved


def sure(family, owner, *, sealed=()):
    """A dict from the keys with which members of heirs of a class can begin a step to the names that are sure."""
    solved = solve_for(family, owner, sealed)
    begun = begun_states(solved.model, owner)
    for world in worlds_with(solved.model, owner):
        for state in world.user.rows:
            begun["init"] = begun.get("init", 0) | world.user.rows[state].seen[ACT]
    having = solved.model.space.having
    names = family.names
    return {key: tuple([name for name in names if begun[key] & ~having[name] == 0]) for key in sorted(begun)}


def early(family, owner, *, sealed=()):
    """The keys with which members of heirs of a class can begin a step while their object is made, ascending."""
    making = solve_for(family, owner, sealed).makings()
    return sorted(begun_states(making, owner))


def solve_for(family, owner, sealed):
    """All lives of a family that has the class."""
    if owner not in family:
        raise NoClass(owner)
    return Solved(family, check_judged(family, sealed), sealed, False)


def worlds_with(model, owner):
    """The worlds with heirs of a class."""
    return [world for world in list(model.worlds.values()) if isinstance(world.name, tuple) and owner in world.line]


def begun_states(model, owner):
    """For each key the states in which members of heirs of a class begin a step, where there are any."""
    begun = {}
    for world in worlds_with(model, owner):
        for place, key in world.members:
            if isinstance(place, int) and place <= world.line.index(owner):
                member = world.members[(place, key)]
                for state in member.rows:
                    begun[key] = begun.get(key, 0) | member.rows[state].seen[ACT]
    return {key: begun[key] for key in begun if begun[key] != 0}
