import inspect
import unittest

from climbtickets import errors
from samples import HUGE, STRANGE

# Each exception with its parameters; a default is always None.
PARAMETERS = {
    "InvalidTicket": ("part",),
    "BrokenRow": ("spot",),
    "InvalidProfile": ("spot=None",),
    "InvalidDesk": ("spot=None",),
    "MissingTicket": ("value",),
    "InvalidNumber": ("value",),
    "InvalidPlan": ("part", "spot=None"),
    "InvalidAnswer": ("part",),
    "TooFew": ("reason",),
    "TooMany": ("limit",),
    "NoRow": ("reason",),
    "NoRounds": ("gap",),
    "InvalidTrip": ("part",),
    "InvalidGroup": ("part", "spot=None"),
    "LimitExceeded": ("limit",),
    "NothingToUndo": (),
    "ParseError": ("line", "word"),
}


def field_names(name):
    return [part.removesuffix("=None") for part in PARAMETERS[name]]


class ErrorsTest(unittest.TestCase):
    def test_base_class(self):
        self.assertEqual(errors.ClimbticketsError.__bases__, (ValueError,))

    def test_there_are_17_exceptions_and_the_base_class(self):
        found = {name for name, value in vars(errors).items() if inspect.isclass(value)}
        self.assertEqual(found, set(PARAMETERS) | {"ClimbticketsError"})
        self.assertEqual(len(PARAMETERS), 17)

    def test_each_is_a_direct_subclass_and_defined_here(self):
        for name in PARAMETERS:
            with self.subTest(name):
                made = getattr(errors, name)
                self.assertEqual(made.__bases__, (errors.ClimbticketsError,))
                self.assertEqual(made.__module__, "climbtickets.errors")
                self.assertEqual(made.__name__, name)

    def test_parameters_and_defaults(self):
        for name, parameters in PARAMETERS.items():
            with self.subTest(name):
                self.assertEqual(str(inspect.signature(getattr(errors, name))), f"({', '.join(parameters)})")

    def test_fields_are_the_very_objects_by_position(self):
        for name in PARAMETERS:
            names = field_names(name)
            for title, value in STRANGE + [("huge", HUGE), ("negative", -1)]:
                with self.subTest(name, value=title):
                    values = [value, object()][:len(names)]
                    error = getattr(errors, name)(*values)
                    for field, given in zip(names, values):
                        self.assertIs(getattr(error, field), given)

    def test_fields_are_the_very_objects_by_name(self):
        for name in PARAMETERS:
            with self.subTest(name):
                values = {field: object() for field in field_names(name)}
                error = getattr(errors, name)(**values)
                for field, given in values.items():
                    self.assertIs(getattr(error, field), given)

    def test_a_spot_that_is_not_given_is_none(self):
        self.assertIsNone(errors.InvalidProfile().spot)
        self.assertIsNone(errors.InvalidDesk().spot)
        self.assertIsNone(errors.InvalidPlan("tickets").spot)
        self.assertIsNone(errors.InvalidGroup("starts").spot)

    def test_wrong_numbers_of_arguments(self):
        for name, parameters in PARAMETERS.items():
            made = getattr(errors, name)
            with self.subTest(name, arguments="too many"):
                with self.assertRaises(TypeError):
                    made(*[0] * (len(parameters) + 1))
            needed = [part for part in parameters if "=" not in part]
            if needed:
                with self.subTest(name, arguments="too few"):
                    with self.assertRaises(TypeError):
                        made(*[0] * (len(needed) - 1))

    def test_the_message_of_a_value_with_very_many_parts_ends_quickly(self):
        for name in PARAMETERS:
            for title, value in STRANGE:
                with self.subTest(name, value=title):
                    values = [value] * len(PARAMETERS[name])
                    error = getattr(errors, name)(*values)
                    self.assertIsInstance(str(error), str)
                    self.assertIsInstance(repr(error), str)

    def test_they_are_raised_and_caught(self):
        for name in PARAMETERS:
            with self.subTest(name):
                made = getattr(errors, name)
                with self.assertRaises(errors.ClimbticketsError) as caught:
                    raise made(*[1] * len(PARAMETERS[name]))
                self.assertIs(type(caught.exception), made)
                self.assertIsInstance(caught.exception, ValueError)


if __name__ == "__main__":
    unittest.main()
