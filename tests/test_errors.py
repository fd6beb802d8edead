import inspect
import unittest

from earlyfields import errors

# Each error with the class that stands directly above it and with its fields in order.
TABLE = (
    ("EarlyError", ValueError, None),
    ("BadText", errors.EarlyError, ("at",)),
    ("TooMany", errors.EarlyError, ("what",)),
    ("Twice", errors.EarlyError, ("name",)),
    ("NoClass", errors.EarlyError, ("name",)),
    ("NoOrder", errors.EarlyError, ("name",)),
    ("NotABase", errors.EarlyError, ("owner", "key", "path")),
    ("Final", errors.EarlyError, ("name", "key")),
    ("NotChained", errors.EarlyError, ("name", "key")),
    ("NotLawful", errors.EarlyError, ("owner", "key", "path")),
    ("BadKey", errors.EarlyError, ("key",)),
    ("BadName", errors.EarlyError, ("name",)),
    ("BadOrder", errors.EarlyError, ("value",)),
    ("BadDeed", errors.EarlyError, ("at",)),
    ("BadLimit", errors.EarlyError, ("value",)),
    ("Far", errors.EarlyError, ("steps",)),
    ("Gap", RuntimeError, ("name", "owner", "key", "path")),
    ("Long", RuntimeError, ("most",)),
    ("NoObject", RuntimeError, ()),
    ("NoEnd", LookupError, ("end",)),
)
VALUES = (("x", ["y", (None, True)]), (7, "init"), ([], ()), (None, (1, 0, 2)))


class ErrorsTest(unittest.TestCase):
    def test_each_class_stands_directly_under_its_base(self):
        for name, base, _ in TABLE:
            self.assertEqual(vars(errors)[name].__bases__, (base,), name)

    def test_there_are_no_other_errors(self):
        found = [name for name, value in vars(errors).items() if inspect.isclass(value)]
        self.assertEqual(sorted(found), sorted([name for name, _, _ in TABLE]))

    def test_each_class_is_defined_there(self):
        for name, _, _ in TABLE:
            self.assertEqual(vars(errors)[name].__module__, "earlyfields.errors")

    def test_fields_by_position(self):
        for name, _, fields in TABLE[1:]:
            values = tuple(VALUES[:len(fields)])
            error = vars(errors)[name](*values)
            self.assertEqual(list(vars(error).items()), list(zip(fields, values)), name)

    def test_fields_by_name_in_any_order(self):
        for name, _, fields in TABLE[1:]:
            given = dict(reversed(list(zip(fields, VALUES))))
            error = vars(errors)[name](**given)
            self.assertEqual(vars(error), given, name)

    def test_the_parameters_have_the_names_of_the_fields(self):
        for name, _, fields in TABLE[1:]:
            if fields:
                parameters = list(inspect.signature(vars(errors)[name].__init__).parameters)
                self.assertEqual(parameters, ["self"] + list(fields), name)

    def test_no_field_may_be_missing_or_too_much(self):
        for name, _, fields in TABLE[1:]:
            if not fields:
                continue
            with self.assertRaises(TypeError):
                vars(errors)[name](*fields[1:])
            with self.assertRaises(TypeError):
                vars(errors)[name](*fields, "more")

    def test_they_can_be_raised_and_caught_by_their_bases(self):
        for name, base, fields in TABLE[1:]:
            with self.assertRaises(base):
                raise vars(errors)[name](*fields)
        with self.assertRaises(errors.EarlyError):
            raise errors.BadText(5)
        with self.assertRaises(ValueError):
            raise errors.EarlyError("x")
