"""What is done on the way of a solved row to an end: actions, and what the picks choose."""

from earlyfields.actors import NOWHERE, USER
from earlyfields.codes import GAP
from earlyfields.words import word_of

# The step that executes a member with a key that begins so.
STEP_WORDS = {"method": "call", "setter": "set", "getter": "read"}


def entered_on(way):
    """The pairs of a row and its end through which a way leads, in their order."""
    return [(callee, bit) for at, place, callee, bit in way if callee is not None]


def all_entered(traces, row, end):
    """All pairs of a row and its end through which the way to an end leads, each once, itself first."""
    pairs = {(row, end): True}
    work = [(row, end)]
    while len(work) > 0:
        above, bit = work.pop()
        for pair in entered_on(traces.way_to(above, bit)):
            if pair not in pairs:
                pairs[pair] = True
                work.append(pair)
    return list(pairs)


def is_heirs(member):
    """Whether a member is one of heirs."""
    return isinstance(member.place, int) and member.place > USER


def body_parts(traces, row, end):
    """What a body takes and executes on its way: picks, and pairs of a row and its end."""
    parts = []
    way = traces.way_to(row, end)
    for number, (at, place, callee, bit) in enumerate(way):
        if callee is not None:
            parts.append((callee, bit))
        if at >= 0 and number + 1 < len(way):
            word, about, path, after, failed, targets = row.role.code.nodes[at]
            if word == "either" or word == "loop":
                parts.append(targets.index(way[number + 1][0]))
    return parts


def legs_of(traces, row, end):
    """The actions of an actor on its way, as (step, callee, bit); callee is None where no row is executed."""
    legs = []
    way = traces.way_to(row, end)
    for number, (at, place, callee, bit) in enumerate(way):
        if callee is not None and callee.role.place == NOWHERE:
            legs.extend(legs_of(traces, callee, bit))
        elif callee is not None:
            legs.append((step_into(row.role, callee.role), callee, bit))
        elif at == GAP:
            before = way[number - 1]
            legs.append((("read", row.role.gap_at(before[0], before[1])[0]), None, None))
        elif number > 0:
            own, shared = traces.space.names_of(place & ~way[number - 1][1])
            legs.extend([(("set", name), None, None) for name in own + shared])
    return legs


def step_into(member, entered):
    """The step by which an actor executes a member."""
    if is_heirs(member) and member.behind is not None:
        if (entered.place, entered.key) == (member.behind.place, member.behind.key):
            return ("super",)
    return STEP_WORDS[entered.key.partition(" ")[0]], word_of(entered.key)


def picks_of(play, row, end):
    """The picks on the way to an end, where the play tells the parts of each way."""
    picks = []
    work = [(row, end)]
    while len(work) > 0:
        part = work.pop()
        if isinstance(part, int):
            picks.append(part)
        else:
            work.extend(play.parts_of(part[0], part[1])[::-1])
    return picks
