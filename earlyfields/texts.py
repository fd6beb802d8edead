"""Words, keys, and the steps of a body as a text and as a tuple."""

from earlyfields.reading import Reader, read_body
from earlyfields.words import fits_key, fits_word


def is_word(value):
    """Whether any value is a word."""
    return isinstance(value, str) and fits_word(value)


def is_key(value):
    """Whether any value is a key."""
    return isinstance(value, str) and fits_key(value)


def read_steps(text):
    """The body that any value is the text of."""
    reader = Reader(text)
    body = read_body(reader, 0)
    reader.finish()
    return body


def write_steps(body):
    """The canonical text of a body."""
    return " ".join([write_step(step) for step in body])


def write_step(step):
    """The canonical text of one step."""
    word = step[0]
    if word == "loop":
        return "loop " + write_block(step[1])
    if word == "if":
        return "if " + step[1] + " " + write_block(step[2]) + " else " + write_block(step[3])
    if word == "try":
        return "try " + write_block(step[1]) + " catch " + write_block(step[2])
    if word == "either":
        return "either " + " or ".join([write_block(block) for block in step[1]])
    return " ".join(step) + ";"


def write_block(body):
    """The canonical text of a body between braces."""
    if len(body) == 0:
        return "{ }"
    return "{ " + write_steps(body) + " }"
