"""What several tests need."""

import unittest

from earlyfields.engine import Maker
from earlyfields.errors import Gap, Long
from earlyfields.families import Family

# Values of every kind that "any value" allows, none of which is a word, a key or a class name.
STRANGE = (
    None, True, False, 0, 1, -1, 10 ** 29, "", " ", "\n", "a b", "A ", " a", "{", "1", "a1", "method",
    (), [], {}, ("A",), ["A"], ("init",), ["init"], [[["a"]]], ((("a",),),), [None, True, 0, "a"],
)


class Case(unittest.TestCase):
    """A test case that compares errors with all their fields."""

    def fails(self, call, error, **fields):
        """The call raises just this error, with these fields and no others."""
        with self.assertRaises(error) as caught:
            call()
        self.assertIs(caught.exception.__class__, error)
        self.assertEqual(vars(caught.exception), fields)
        for name, value in fields.items():
            self.assertIs(vars(caught.exception)[name].__class__, value.__class__)


def result_of(call):
    """What a call of a maker returns, or a gap or the limit as a tuple."""
    try:
        return call()
    except Gap as error:
        return ("gap", error.name, error.owner, error.key, error.path)
    except Long as error:
        return ("long", error.most)


def state_of(maker):
    """What the object owns, and the shared names that have a value."""
    return maker.current_own, maker.current_shared


def words_of(events):
    """The words of events, with blanks between."""
    return " ".join([event[4] for event in events])


class MakingCase(Case):
    """A test case that makes objects of a family."""

    def made(self, text, owner="A", picks=(), *, limit=200, shared=()):
        """A maker that has made an object of a class, and whether that did not fail, or the gap or limit."""
        maker = Maker(Family(text), limit=limit, shared=shared)
        return maker, result_of(lambda: maker.make(owner, picks))

    def making(self, text, expected, own, shared=(), words=None, *, owner="A", picks=(), given=()):
        """A making has this result, these names have a value behind it, and its events these words."""
        maker, result = self.made(text, owner, picks, shared=given)
        self.assertEqual(result, expected, text)
        self.assertEqual(state_of(maker), (own, shared), text)
        if words is not None:
            self.assertEqual(words_of(maker.walk()), words, text)
        return maker
