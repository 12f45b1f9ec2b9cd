"""The error classes: where each one stands, and its attribute."""

import unittest

from easelwork import errors

ABOVE = {
    "EaselError": ValueError,
    "DeedError": "EaselError",
    "NoLayer": "DeedError",
    "BadValue": "DeedError",
    "BadPlace": "DeedError",
    "NoChange": "DeedError",
    "Taken": "DeedError",
    "TooLarge": "DeedError",
    "HistoryError": "EaselError",
    "NoState": "HistoryError",
    "NoWay": "HistoryError",
    "NoName": "HistoryError",
    "NameTaken": "HistoryError",
    "LineError": "EaselError",
    "BadLine": "LineError",
    "TooDeep": "LineError",
    "FileError": "EaselError",
    "Full": "FileError",
    "NotAFile": "FileError",
    "BadText": "FileError",
    "EndlessRegion": "EaselError",
    "Singular": "EaselError",
}
ATTRIBUTES = {
    "NoLayer": ("number", 7),
    "BadValue": ("field", "mode"),
    "Taken": ("number", 0),
    "TooLarge": ("what", "depth"),
    "NoState": ("state", 10 ** 60 - 1),
    "NoName": ("word", "old"),
    "NameTaken": ("word", ""),
    "BadLine": ("column", 3),
    "BadText": ("position", -(10 ** 60 - 1)),
}


class ErrorTest(unittest.TestCase):
    def test_each_class_stands_directly_below_its_base_alone(self):
        for name, above in ABOVE.items():
            base = getattr(errors, above) if isinstance(above, str) else above
            self.assertEqual(getattr(errors, name).__bases__, (base,), name)

    def test_there_is_no_other_class(self):
        found = {name for name, thing in vars(errors).items() if isinstance(thing, type)}
        self.assertEqual(found, set(ABOVE))

    def test_each_class_is_defined_in_this_file(self):
        for name in ABOVE:
            self.assertEqual(getattr(errors, name).__module__, "easelwork.errors")

    def test_an_error_carries_its_attribute(self):
        for name, (attribute, value) in ATTRIBUTES.items():
            error = getattr(errors, name)(value)
            self.assertEqual(vars(error), {attribute: value}, name)

    def test_an_error_without_attribute_is_made_without_arguments(self):
        for name in ABOVE:
            if name not in ATTRIBUTES:
                self.assertEqual(vars(getattr(errors, name)()), {}, name)

    def test_an_error_is_raised_and_caught_as_any_class_above_it(self):
        for name in ABOVE:
            attribute = ATTRIBUTES.get(name)
            error = getattr(errors, name)(attribute[1]) if attribute else getattr(errors, name)()
            with self.assertRaises(errors.EaselError) as caught:
                raise error
            self.assertIs(caught.exception, error)
            self.assertIsInstance(error, ValueError)


if __name__ == "__main__":
    unittest.main()
