"""Which keys must be left alone for a family to be safe, and which ones are enough to show a gap."""

from earlyfields.bounds import check_judged, check_many
from earlyfields.solved import is_safe

MOST_KEYS = 6


def least_seals(family):
    """All sets of keys that suffice and have as few keys as possible, as tuples, ascending."""
    showing = least_shows(family)
    keys = family.all_keys()
    # A set suffices just if it leaves none of the least sets that show whole.
    for many in range(len(keys) + 1):
        found = [chosen for chosen in choices(keys, many) if all([meets(chosen, other) for other in showing])]
        if len(found) > 0:
            return found
    return []


def least_shows(family):
    """All sets of keys that show and of which no smaller part shows, as tuples, ascending."""
    keys = family.all_keys()
    check_many(keys, MOST_KEYS, "keys")
    orders = check_judged(family, ())
    safe = []
    showing = []
    # The largest first: all parts of one that does not show are known, and so are all that have a part that shows.
    for many in range(len(keys), -1, -1):
        for chosen in choices(keys, many):
            if any([is_part(chosen, other) for other in safe]) or any([is_part(other, chosen) for other in showing]):
                continue
            if shows(family, orders, chosen):
                showing.append(least_part(family, orders, chosen))
            else:
                safe.append(chosen)
    return sorted(showing)


def shows(family, orders, chosen):
    """Whether an extension shows a gap that leaves all keys but the chosen ones alone."""
    return not is_safe(family, orders, [key for key in family.all_keys() if key not in chosen])


def least_part(family, orders, chosen):
    """A part of chosen keys that show, of which no smaller part shows."""
    part = chosen
    for key in chosen:
        smaller = tuple([other for other in part if other != key])
        if shows(family, orders, smaller):
            part = smaller
    return part


def choices(keys, many):
    """All ways to choose so many of some keys, as tuples, ascending if the keys are."""
    if many == 0:
        return [()]
    chosen = []
    for index, key in enumerate(keys):
        chosen.extend([(key,) + rest for rest in choices(keys[index + 1:], many - 1)])
    return chosen


def is_part(keys, others):
    """Whether all keys are among the others."""
    return all([key in others for key in keys])


def meets(keys, others):
    """Whether some key is among the others."""
    return any([key in others for key in keys])
