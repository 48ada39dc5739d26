"""The interface's section `ordersopen.errors`, and [2] for what errors keep."""

import unittest

from ordersopen import errors
from tests.helper import any_values

LISTED = {
    ValueError: {"NoName": ("name",), "BadFunction": ("part",), "NoExpression": ("path",), "NoOrder": ("order",),
                 "NoText": ("place",)},
    TypeError: {"BadBook": ("at",), "NoPoints": ("points",)},
    KeyError: {"NoFunction": ("name",), "NoCase": ("case",)},
    IndexError: {"NoNumber": ("number",), "NoStep": ("step",), "NothingToUndo": ()},
    LookupError: {"NoClass": ("flips",), "NoPair": ("pair",), "NoNode": ("path",)},
    OverflowError: {"TooMany": ("limit",)},
    RuntimeError: {"Guarded": ("path",), "Unlike": (), "Asked": ("text",), "NotAsked": (), "NotReady": ("step",)},
}


def listed():
    for base, rows in LISTED.items():
        for name, fields in rows.items():
            yield base, getattr(errors, name), fields


class Errors(unittest.TestCase):
    def test_each_is_directly_under_its_builtin_class(self):
        for base, error, fields in listed():
            self.assertEqual(error.__bases__, (base,), error)

    def test_no_other_errors_are_defined(self):
        found = {name for name, value in vars(errors).items() if isinstance(value, type)}
        self.assertEqual(found, {error.__name__ for base, error, fields in listed()})

    def test_fields_by_position_and_by_name(self):
        for base, error, fields in listed():
            for value in any_values():
                by_place = error(*[value for field in fields])
                by_name = error(**{field: value for field in fields})
                for made in (by_place, by_name):
                    self.assertEqual(vars(made), {field: value for field in fields})
                    self.assertEqual([type(found) for found in vars(made).values()], [type(value) for field in fields])

    def test_fields_must_be_passed_and_no_more(self):
        for base, error, fields in listed():
            self.assertRaises(TypeError, error, *[1 for field in fields], 1)
            if fields:
                self.assertRaises(TypeError, error)

    def test_the_message_is_a_string(self):
        for base, error, fields in listed():
            for value in any_values():
                self.assertTrue(str(error(*[value for field in fields])))

    def test_a_list_that_is_changed_later_does_not_show(self):
        for base, error, fields in listed():
            for field in fields:
                inner = [1]
                value = [inner, (inner, "a")]
                made = error(value)
                inner.append(2)
                value.append(3)
                self.assertEqual(getattr(made, field), [[1], ([1], "a")])

    def test_the_value_that_is_passed_stays(self):
        for base, error, fields in listed():
            for field in fields:
                value = [[1], ("a", [True])]
                getattr(error(value), field)[0].append(2)
                self.assertEqual(value, [[1], ("a", [True])])

    def test_a_true_field_stays_true(self):
        self.assertIs(errors.NoStep((True,)).step[0], True)
        self.assertIs(errors.NoStep(False).step, False)


if __name__ == "__main__":
    unittest.main()
