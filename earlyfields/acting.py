"""What each step does, and executing a body with all that it comes to.

Nothing here calls itself: bodies execute one another by the frames of a list, so the limit alone bounds them.
"""

from earlyfields.errors import Gap, Long
from earlyfields.steps import blocks_of
from earlyfields.words import word_of

NOWHERE = (None, None, ())


def do_keep(machine, thing, step, where):
    """Gives the name its value."""
    machine.keep(thing, step[1])


def do_look(machine, thing, step, where):
    """Shows a gap if the name has no value."""
    machine.look(thing, step[1], where)


def do_set(machine, thing, step, where):
    """Enters the setter, or without one does what `keep` does."""
    frame = machine.found_member(thing, "setter " + step[1])
    if frame is None:
        machine.keep(thing, step[1])
    return frame


def do_read(machine, thing, step, where):
    """Enters the getter, or without one does what `look` does."""
    frame = machine.found_member(thing, "getter " + step[1])
    if frame is None:
        machine.look(thing, step[1], where)
    return frame


def do_call(machine, thing, step, where):
    """Enters the method, if there is one."""
    return machine.found_member(thing, "method " + step[1])


def do_super(machine, thing, step, where):
    """Enters the next member behind the one in which the step stands."""
    owner, key, path = where
    return go_on(machine, thing, machine.family.after(thing.kind, owner, key), where)


def do_of(machine, thing, step, where):
    """Enters the member that an ancestor finds."""
    owner, key, path = where
    return go_on(machine, thing, machine.family.found(step[1], key), where)


def go_on(machine, thing, behind, where):
    """Enters the member of the class behind; for None the place has the last one, which does its own part."""
    owner, key, path = where
    if behind is None and key.startswith("setter"):
        machine.keep(thing, word_of(key))
    elif behind is None and key.startswith("getter"):
        machine.look(thing, word_of(key), where)
    return machine.member(thing, behind, key)


def do_make(machine, thing, step, where):
    """Enters the `init` of a new object, if there is one."""
    return machine.found_member(machine.bear(step[1]), "init")


def enter_if(machine, frame, step):
    """The block that the name chooses."""
    if machine.has_value(frame.thing, step[1]):
        return frame.block(step, 0)
    return frame.block(step, 1)


def enter_either(machine, frame, step):
    """The block that the next pick chooses."""
    return frame.block(step, machine.take_pick(len(blocks_of(step))))


def enter_loop(machine, frame, step):
    """The block, behind which the loop begins anew; none if the next pick ends it."""
    if machine.take_pick(2) == 0:
        return None
    frame.repeat_step()
    return frame.block(step, 0)


def enter_try(machine, frame, step):
    """The first block, which the second one rescues."""
    first = frame.block(step, 0)
    first.rescue = frame.block(step, 1)
    return first


ACTIONS = {
    "keep": do_keep, "look": do_look, "set": do_set, "read": do_read,
    "call": do_call, "super": do_super, "of": do_of, "make": do_make,
}
ENTRANCES = {"if": enter_if, "either": enter_either, "loop": enter_loop, "try": enter_try}


def act(machine, thing, step, where):
    """Does a step without blocks for an object; the frame of the member that is executed then, or None."""
    action = ACTIONS[step[0]]
    return action(machine, thing, step, where)


def enter(machine, frame, step):
    """Does the step of a frame that began last; the frame that is executed then, or None."""
    if step[0] in ENTRANCES:
        entrance = ENTRANCES[step[0]]
        return entrance(machine, frame, step)
    return act(machine, frame.thing, step, frame.where())


def rescued(stack):
    """Takes away the frames that fail; the frame that is executed instead, or None if all fail."""
    while len(stack) > 0:
        rescue = stack.pop().rescue
        if rescue is not None:
            return rescue
    return None


def execute(machine, first):
    """Executes a frame, if there is one, with all that it comes to; whether it did not fail."""
    if first is None:
        return True
    stack = [first]
    while len(stack) > 0:
        if stack[-1].is_over():
            stack.pop()
            continue
        step = machine.begin_step(stack[-1])
        if step[0] == "fail":
            entered = rescued(stack)
            if entered is None:
                return False
        else:
            entered = enter(machine, stack[-1], step)
        if entered is not None:
            stack.append(entered)
    return True


def do_deed(machine, deed):
    """Does a deed, with an object unless it is a making; whether it did not fail."""
    if deed[0] == "make":
        return make_object(machine, deed[1])
    try:
        return execute(machine, act(machine, machine.thing, deed, NOWHERE))
    except (Gap, Long):
        machine.thing = None
        raise


def make_object(machine, kind):
    """Makes an object of a class; whether it did not fail."""
    machine.thing = None
    thing = machine.bear(kind)
    if not execute(machine, machine.found_member(thing, "init")):
        return False
    machine.thing = thing
    return True
