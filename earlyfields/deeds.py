"""Which values are deeds."""

from earlyfields.texts import is_word

WITH_WORD = ("call", "set", "read")


def is_deed(family, value):
    """Whether any value is a deed for objects of a family."""
    if not isinstance(value, tuple) or len(value) != 2:
        return False
    word, about = value
    if word == "make":
        return about in family
    return word in WITH_WORD and is_word(about)
