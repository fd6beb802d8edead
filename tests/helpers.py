"""What several tests need."""

import unittest

# Values of every kind that "any value" allows, none of which is a word, a key or a class name.
STRANGE = (
    None, True, False, 0, 1, -1, 10 ** 29, "", " ", "\n", "a b", "A ", " a", "{", "1", "a1", "method",
    (), [], {}, ("A",), ["A"], ("init",), ["init"], [[["a"]]], ((("a",),),), [None, True, 0, "a"],
)


class Case(unittest.TestCase):
    """A test case that compares errors with all their fields."""

    def fails(self, call, error, **fields):
        """The call raises just this error, with these fields and no others."""
        with self.assertRaises(error) as caught:
            call()
        self.assertIs(caught.exception.__class__, error)
        self.assertEqual(vars(caught.exception), fields)
        for name, value in fields.items():
            self.assertIs(vars(caught.exception)[name].__class__, value.__class__)
