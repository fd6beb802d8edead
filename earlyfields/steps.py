"""The steps of a body, those in blocks, too."""

NAMING = ("set", "keep", "read", "look", "if")


def blocks_of(step):
    """The blocks of a step, in their order."""
    word = step[0]
    if word == "loop" or word == "try":
        return step[1:]
    if word == "if":
        return step[2:]
    if word == "either":
        return step[1]
    return ()


def steps_with_paths(body):
    """All steps of a body as pairs of the path and the step, by ascending paths."""
    rows = []
    collect_steps(body, (), rows)
    return rows


def collect_steps(body, ahead, rows):
    """Adds the steps of a body to rows; ahead is what stands ahead of their indexes in the paths."""
    for index, step in enumerate(body):
        path = ahead + (index,)
        rows.append((path, step))
        for number, block in enumerate(blocks_of(step)):
            collect_steps(block, path + (number,), rows)


def name_in(step):
    """The name that a step mentions, or None."""
    if step[0] in NAMING:
        return step[1]
    return None


def method_in(step):
    """The method that a step calls, or None."""
    if step[0] == "call":
        return step[1]
    return None


def begins_with_super(body):
    """Whether the first step of a body is `super`."""
    return len(body) > 0 and body[0][0] == "super"
