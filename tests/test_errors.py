"""The refusals of the interface: classes, bases, `called` and fields."""

import copy
import unittest

from voidquilt import errors

PLAIN = ["BadWorth", "BadBeginning", "BadPoint", "BadBox", "Unlike", "Off", "BadName", "BadWidth", "BadRow",
         "There", "BadDeed", "BadQuestion", "BadOrder", "BadPower"]
WITH_FIELD = {"Taken": ("name", "edge"), "Full": ("what", "tables"), "BadText": ("at", 7), "Unfit": ("at", 2),
              "TooMany": ("most", 100)}
MISSING = ["NoTable", "NoRow"]
TOPS = {"QuiltError": ValueError, "Missing": LookupError, "Nothing": IndexError}


def class_of(name):
    return getattr(errors, name)


def made(name):
    if name in WITH_FIELD:
        return class_of(name)(WITH_FIELD[name][1])
    if name == "Missing" or name in MISSING:
        return class_of(name)("edge")
    return class_of(name)()


ALL = PLAIN + list(WITH_FIELD) + MISSING + list(TOPS)


class ErrorsTest(unittest.TestCase):
    def test_there_are_these_and_no_others(self):
        there = [name for name, thing in vars(errors).items() if isinstance(thing, type)]
        self.assertEqual(sorted(there), sorted(ALL))

    def test_tops_stand_straight_under_pythons_own(self):
        for name, base in TOPS.items():
            self.assertEqual(class_of(name).__bases__, (base,), name)

    def test_most_stand_straight_under_quilt_error(self):
        for name in PLAIN + list(WITH_FIELD):
            self.assertEqual(class_of(name).__bases__, (errors.QuiltError,), name)
            self.assertIsInstance(made(name), ValueError)
            self.assertNotIsInstance(made(name), LookupError)

    def test_missing_things_stand_under_missing(self):
        for name in MISSING:
            self.assertEqual(class_of(name).__bases__, (errors.Missing,), name)
            self.assertIsInstance(made(name), LookupError)
            self.assertNotIsInstance(made(name), ValueError)

    def test_nothing_is_no_quilt_error(self):
        self.assertIsInstance(errors.Nothing(), IndexError)
        self.assertNotIsInstance(errors.Nothing(), (errors.QuiltError, errors.Missing))

    def test_called_is_the_name_of_the_class(self):
        for name in ALL:
            self.assertEqual(made(name).called, name)

    def test_called_is_an_objects_own_when_it_is_made(self):
        for name in ALL:
            self.assertIn("called", vars(made(name)), name)

    def test_fields_are_kept(self):
        for name, (field, value) in WITH_FIELD.items():
            self.assertEqual(vars(made(name)), {"called": name, field: value})
        for name in MISSING + ["Missing"]:
            self.assertEqual(vars(made(name)), {"called": name, "name": "edge"})

    def test_the_others_have_no_fields(self):
        for name in PLAIN + ["QuiltError", "Nothing"]:
            self.assertEqual(vars(made(name)), {"called": name})

    def test_fields_are_handed_in_by_name(self):
        for name, (field, value) in WITH_FIELD.items():
            self.assertEqual(getattr(class_of(name)(**{field: value}), field), value)
        for name in MISSING + ["Missing"]:
            self.assertEqual(class_of(name)(name="edge").name, "edge")

    def test_a_copy_is_alike(self):
        for name in ALL:
            self.assertEqual(vars(copy.copy(made(name))), vars(made(name)), name)

    def test_each_is_raised_and_caught_by_its_base(self):
        for name in ALL:
            base = class_of(name).__bases__[0]
            with self.assertRaises(base) as caught:
                raise made(name)
            self.assertEqual(caught.exception.called, name)


if __name__ == "__main__":
    unittest.main()
