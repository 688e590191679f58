"""Point [5] and the list of the errors in the interface."""

import unittest

from tworows import errors

ARGUMENTS = {
    "BadShape": ("why", "at"),
    "BadRow": ("column",),
    "BadTable": ("why", "at"),
    "BadTest": ("why",),
    "BadWant": ("at",),
    "BadOrder": ("at",),
    "BadPlan": ("why", "at"),
    "BadClaim": ("why",),
    "BadDeed": ("at",),
    "BadText": ("line",),
    "TooMany": ("limit",),
    "NoRow": ("row_id",),
    "CheckFails": ("row_id", "at"),
    "KeyClash": ("row_id", "at"),
    "LimitExceeded": ("limit",),
}


def caught_by(error):
    """The names of the listed classes that catch an error."""
    names = []
    for name in ARGUMENTS:
        try:
            raise error
        except getattr(errors, name):
            names.append(name)
        except errors.RowsError:
            pass
    return names


class ErrorsTest(unittest.TestCase):
    def test_there_are_fifteen_errors_and_their_base(self):
        found = {name for name, thing in vars(errors).items() if isinstance(thing, type)}
        self.assertEqual(len(ARGUMENTS), 15)
        self.assertEqual(found, set(ARGUMENTS) | {"RowsError"})
        self.assertEqual(errors.RowsError.__bases__, (Exception,))

    def test_each_is_a_direct_subclass_of_rows_error_alone(self):
        for name in ARGUMENTS:
            self.assertEqual(getattr(errors, name).__bases__, (errors.RowsError,), name)

    def test_each_is_caught_as_itself_and_as_no_other_one(self):
        for name, words in ARGUMENTS.items():
            error = getattr(errors, name)(*words)
            self.assertEqual(caught_by(error), [name])

    def test_the_arguments_are_attributes(self):
        for name, words in ARGUMENTS.items():
            told = dict(zip(words, [("first", 1), ["second"]]))
            error = getattr(errors, name)(*told.values())
            self.assertEqual(vars(error), told, name)
            error = getattr(errors, name)(**told)
            self.assertEqual(vars(error), told, name)

    def test_the_number_of_arguments_is_as_listed(self):
        for name, words in ARGUMENTS.items():
            for wrong in (words[1:], words + ("further",)):
                with self.assertRaises(TypeError, msg=name):
                    getattr(errors, name)(*wrong)


if __name__ == "__main__":
    unittest.main()
