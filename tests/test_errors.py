"""Promises [2] and [3], and the interface of gridlanes/errors.py."""

import inspect
import unittest

from gridlanes import errors
from tests.support import all_values

FIELDS = {
    "NoNumber": ("part",),
    "NoContent": ("part", "index"),
    "NoGrid": ("part", "index"),
    "NoItem": ("part",),
    "NoPage": ("part", "index"),
    "ManyLanes": ("axis",),
    "NoPath": ("path",),
    "NoRange": ("part",),
    "TooMany": ("most",),
    "NoWish": ("wish",),
    "OtherBoxes": ("one", "other"),
    "NoAxis": (),
    "NoArea": ("index",),
    "NoSizes": ("index",),
    "NoCrossings": ("index",),
    "NoOrder": ("index",),
    "NoText": ("line",),
    "NoStates": (),
}


class Layers:
    """A value that is equal to nothing and cannot be shown."""

    def __eq__(self, other):
        return False

    def __repr__(self):
        raise TypeError("not to be shown")


def class_of(name):
    return getattr(errors, name)


class ErrorsTest(unittest.TestCase):

    def test_there_are_eighteen(self):
        self.assertEqual(len(FIELDS), 18)
        found = [name for name in vars(errors) if inspect.isclass(class_of(name))]
        self.assertEqual(sorted(found), sorted([*FIELDS, "LaneError"]))

    def test_lane_error_derives_from_value_error(self):
        self.assertEqual(errors.LaneError.__bases__, (ValueError,))

    def test_each_derives_directly_from_lane_error(self):
        for name in FIELDS:
            with self.subTest(name):
                self.assertEqual(class_of(name).__bases__, (errors.LaneError,))

    def test_each_is_defined_in_its_file(self):
        for name in FIELDS:
            with self.subTest(name):
                self.assertEqual(class_of(name).__module__, "gridlanes.errors")

    def test_each_can_be_raised_and_caught(self):
        for name in FIELDS:
            for base in (class_of(name), errors.LaneError, ValueError):
                with self.subTest(name=name, base=base):
                    with self.assertRaises(base):
                        raise class_of(name)(*FIELDS[name])

    def test_no_error_is_another_one(self):
        for name in FIELDS:
            error = class_of(name)(*FIELDS[name])
            kinds = [other for other in FIELDS if isinstance(error, class_of(other))]
            self.assertEqual(kinds, [name])

    def test_fields_by_position_and_by_name_are_kept_as_they_are(self):
        values = [*all_values().values(), 10 ** 5000, Layers()]
        for name in FIELDS:
            fields = FIELDS[name]
            for at in range(len(values)):
                given = [values[at - k] for k in range(len(fields))]
                by_position = class_of(name)(*given)
                by_name = class_of(name)(**dict(zip(fields, given)))
                for field, value in zip(fields, given):
                    self.assertIs(getattr(by_position, field), value)
                    self.assertIs(getattr(by_name, field), value)

    def test_fields_in_another_order_by_name(self):
        error = errors.OtherBoxes(other=4, one=3)
        self.assertEqual((error.one, error.other), (3, 4))
        error = errors.NoContent("widths", index=2)
        self.assertEqual((error.part, error.index), ("widths", 2))

    def test_no_fields_but_the_told_ones(self):
        for name in FIELDS:
            with self.subTest(name):
                self.assertEqual(tuple(vars(class_of(name)(*FIELDS[name]))), FIELDS[name])
                with self.assertRaises(TypeError):
                    class_of(name)(nothing=1)

    def test_errors_are_not_equal_to_other_kinds(self):
        for value in all_values().values():
            self.assertFalse(errors.NoItem("x") == value)
            self.assertFalse(errors.NoAxis() == value)


if __name__ == "__main__":
    unittest.main()
