"""The tokens of a text, and which of them are words, class names and heads of keys."""

SMALL = "abcdefghijklmnopqrstuvwxyz"
CAPITAL = "ABCDEFGHIJKLMNOPQRSTUVWXYZ"
BLANKS = " \n"
LONGEST = 8
RESERVED = (
    "class", "shared", "promise", "value", "init", "method", "getter", "setter", "chained", "final",
    "set", "keep", "read", "look", "call", "super", "of", "make", "fail",
    "try", "catch", "if", "else", "either", "or", "loop",
)
HEADS = ("method", "getter", "setter")
ACCESSORS = ("getter", "setter")


def tokens_of(text):
    """All tokens of a text, each with the position of its first character."""
    rows = []
    at = 0
    while at < len(text):
        end = token_end(text, at)
        if text[at] not in BLANKS:
            rows.append((at, text[at:end]))
        at = end
    return rows


def token_end(text, at):
    """The position behind the token, or the blank, that begins at a position."""
    end = at + 1
    if is_letter(text[at]):
        while end < len(text) and is_letter(text[end]):
            end = end + 1
    return end


def is_letter(character):
    """Whether a character is one of the letters that make up words; other alphabets do not count."""
    return character in SMALL or character in CAPITAL


def fits_word(text):
    """Whether a string is a word."""
    return 1 <= len(text) <= LONGEST and all_small(text) and text not in RESERVED


def fits_class(text):
    """Whether a string is a class name."""
    return 1 <= len(text) <= LONGEST and text[0] in CAPITAL and all_small(text[1:])


def all_small(text):
    """Whether a string has small letters only."""
    for character in text:
        if character not in SMALL:
            return False
    return True


def fits_key(text):
    """Whether a string is a key."""
    if text == "init":
        return True
    parts = text.partition(" ")
    return parts[0] in HEADS and fits_word(parts[2])


def is_accessor(key):
    """Whether a key is that of a getter or a setter."""
    return key.partition(" ")[0] in ACCESSORS


def is_method(key):
    """Whether a key is that of a method."""
    return key.partition(" ")[0] == "method"


def word_of(key):
    """The word in a key, the empty string for `init`."""
    return key.partition(" ")[2]
