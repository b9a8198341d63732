import inspect
import unittest

from paintposts import errors
from tests.samples import ANY_VALUES

FIELDS = {
    ValueError: {
        "InvalidPainter": ["reason"], "InvalidFence": ["index"], "DuplicateName": ["value"],
        "InvalidPost": ["value"], "InvalidDay": ["value"], "InvalidCount": ["value"], "InvalidStride": ["value"],
        "BadOrder": ["order"], "InvalidWish": ["index"], "InvalidTeams": ["index"], "InvalidAction": ["value"],
        "Blocked": ["value", "stop"], "ParseError": ["line"], "CommandError": ["line"],
    },
    KeyError: {"UnknownName": ["value"]},
    OverflowError: {"TooMany": ["limit"]},
    LookupError: {"NothingToUndo": [], "NothingToRedo": [], "InvalidVersion": ["value"]},
}

CLASSES = [
    (getattr(errors, name), base, fields) for base, rows in FIELDS.items() for name, fields in rows.items()]


class ErrorsTest(unittest.TestCase):
    def test_there_are_nineteen_errors(self):
        found = {name for name, value in vars(errors).items() if inspect.isclass(value)}
        self.assertEqual(found, {error.__name__ for error, base, fields in CLASSES})
        self.assertEqual(len(CLASSES), 19)

    def test_each_is_a_direct_subclass_of_its_base_and_defined_here(self):
        for error, base, fields in CLASSES:
            self.assertEqual(error.__bases__, (base,), error)
            self.assertEqual(error.__module__, "paintposts.errors")

    def test_fields_by_position_are_the_very_values(self):
        for error, base, fields in CLASSES:
            for value in ANY_VALUES:
                values = [[value, number] for number, field in enumerate(fields)]
                made = error(*values)
                for field, stored in zip(fields, values):
                    self.assertIs(getattr(made, field), stored)
                self.assertEqual(values, [[value, number] for number, field in enumerate(fields)])

    def test_fields_by_name_are_the_very_values(self):
        for error, base, fields in CLASSES:
            for value in ANY_VALUES:
                values = {field: [value, field] for field in fields}
                made = error(**dict(reversed(values.items())))
                for field in fields:
                    self.assertIs(getattr(made, field), values[field])

    def test_fields_have_no_other_values(self):
        for value in ANY_VALUES:
            self.assertIs(errors.InvalidPost(value).value, value)
            self.assertIs(errors.UnknownName(value=value).value, value)
            self.assertEqual(vars(errors.Blocked(value, None)), {"value": value, "stop": None})

    def test_a_field_more_or_less_is_wrong(self):
        for error, base, fields in CLASSES:
            if fields:
                with self.assertRaises(TypeError):
                    error(*fields, "more")
                with self.assertRaises(TypeError):
                    error(*fields[1:])

    def test_errors_are_caught_as_their_bases(self):
        for error, base, fields in CLASSES:
            with self.assertRaises(base):
                raise error(*fields)

    def test_words_of_an_error_fail_for_no_value(self):
        for value in ANY_VALUES + [10 ** 400]:
            str(errors.InvalidCount(value))
            str(errors.InvalidCount(value=value))
            repr(errors.UnknownName(value))
