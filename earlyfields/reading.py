"""Reading tokens one after another, and the steps of a body from them."""

from earlyfields.errors import BadText
from earlyfields.words import fits_class, fits_word, tokens_of

DEEPEST = 6
WITH_WORD = ("set", "keep", "read", "look", "call")
WITH_CLASS = ("of", "make")
STEP_WORDS = (
    "set", "keep", "read", "look", "call", "of", "make", "super", "fail",
    "loop", "if", "try", "either",
)


class Reader:
    """The tokens of a text, of which the first one that is left can be seen and taken."""

    def __init__(self, text):
        if not isinstance(text, str):
            raise BadText(-1)
        self.tokens = tokens_of(text)
        self.length = len(text)
        self.place = 0

    def token(self):
        """The first token that is left; the empty string, which is no token, at the end."""
        if self.place < len(self.tokens):
            return self.tokens[self.place][1]
        return ""

    def position(self):
        """Where that token begins; the length of the text at the end."""
        if self.place < len(self.tokens):
            return self.tokens[self.place][0]
        return self.length

    def advance(self):
        """Takes the next token, whatever it is."""
        token = self.token()
        self.place = self.place + 1
        return token

    def take(self, wanted):
        """Takes the next token, which must be the wanted one."""
        if self.token() != wanted:
            raise BadText(self.position())
        return self.advance()

    def take_word(self):
        """Takes the next token, which must be a word."""
        if not fits_word(self.token()):
            raise BadText(self.position())
        return self.advance()

    def take_class(self):
        """Takes the next token, which must be a class name."""
        if not fits_class(self.token()):
            raise BadText(self.position())
        return self.advance()

    def finish(self):
        """Makes sure that no token is left."""
        if self.place < len(self.tokens):
            raise BadText(self.position())


def read_body(reader, depth):
    """The steps up to the first token that begins none; they stand in depth blocks."""
    steps = []
    while reader.token() in STEP_WORDS:
        steps.append(read_step(reader, depth))
    return tuple(steps)


def read_step(reader, depth):
    """The step that begins with the next token, one of the words that begin a step."""
    word = reader.advance()
    if word == "loop":
        return (word, read_block(reader, depth))
    if word == "if":
        return read_if(reader, depth)
    if word == "try":
        return read_try(reader, depth)
    if word == "either":
        return read_either(reader, depth)
    step = (word,)
    if word in WITH_WORD:
        step = (word, reader.take_word())
    elif word in WITH_CLASS:
        step = (word, reader.take_class())
    reader.take(";")
    return step


def read_if(reader, depth):
    """A step `if`, from behind this word on."""
    name = reader.take_word()
    first = read_block(reader, depth)
    reader.take("else")
    return ("if", name, first, read_block(reader, depth))


def read_try(reader, depth):
    """A step `try`, from behind this word on."""
    first = read_block(reader, depth)
    reader.take("catch")
    return ("try", first, read_block(reader, depth))


def read_either(reader, depth):
    """A step `either`, from behind this word on."""
    blocks = [read_block(reader, depth)]
    reader.take("or")
    blocks.append(read_block(reader, depth))
    while reader.token() == "or":
        reader.take("or")
        blocks.append(read_block(reader, depth))
    return ("either", tuple(blocks))


def read_block(reader, depth):
    """The body of a block that stands in depth other ones."""
    # A brace that opens one block too many does not fit, and neither does anything else here.
    if depth == DEEPEST:
        raise BadText(reader.position())
    return read_braces(reader, depth + 1)


def read_braces(reader, depth):
    """A body between braces; its steps stand in depth blocks."""
    reader.take("{")
    body = read_body(reader, depth)
    reader.take("}")
    return body
