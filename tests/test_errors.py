"""The interface's meetfolk/errors.py, and [1]: the errors."""

import unittest

from meetfolk import errors

PLAIN = (
    "BadFolk", "BadCrowd", "BadRule", "BadRow", "NeverRests", "AlwaysRests", "ManyEnds", "TooGreat", "NoRay",
    "BadNumber", "Unlike", "BadSum", "NoMood", "NotText", "BadMoods", "BadMood", "Nobody", "NothingDone", "BadShape",
    "BadClasses", "NoLump",
)
WITH_FIELD = (
    ("TooMany", "most", 5000), ("InvalidText", "place", 17), ("Twice", "name", "X"), ("Unknown", "name", "YY"),
    ("InvalidDesk", "at", 3),
)


class TestErrors(unittest.TestCase):
    def test_the_base_is_a_value_error(self):
        self.assertEqual(errors.FolkError.__bases__, (ValueError,))

    def test_all_others_are_direct_subclasses(self):
        for name in PLAIN + tuple(name for name, _, _ in WITH_FIELD):
            with self.subTest(name):
                self.assertEqual(getattr(errors, name).__bases__, (errors.FolkError,))
                self.assertEqual(getattr(errors, name).__module__, "meetfolk.errors")

    def test_no_other_class_is_there(self):
        told = set(PLAIN) | {name for name, _, _ in WITH_FIELD} | {"FolkError"}
        self.assertEqual({name for name, value in vars(errors).items() if isinstance(value, type)}, told)

    def test_plain_errors_take_nothing(self):
        for name in PLAIN:
            with self.subTest(name):
                self.assertEqual(vars(getattr(errors, name)()), {})

    def test_fields_are_set_on_each_object(self):
        for name, field, value in WITH_FIELD:
            with self.subTest(name):
                made = getattr(errors, name)(value)
                self.assertEqual(vars(made), {field: value})
                self.assertIn(str(value), str(made))
                with self.assertRaises(errors.FolkError):
                    raise made
                with self.assertRaises(TypeError):
                    getattr(errors, name)()


if __name__ == "__main__":
    unittest.main()
