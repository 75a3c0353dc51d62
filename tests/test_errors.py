"""Point 55: the errors."""

import inspect

from keptnights import errors
from tests.support import Case

FIELDS = {
    "BadNumber": ("value",), "BadName": ("value",), "BadDate": ("value",), "BadSpan": ("value",),
    "BadItem": ("index",), "BadEvent": ("value",), "BadNote": ("line",), "TooMany": ("limit",),
    "Unknown": ("value",), "Taken": ("value",), "Closed": ("day",), "Refused": ("reason", "night"),
    "NothingToUndo": (),
}


class TestErrors(Case):
    def test_kept_error_is_a_value_error(self):
        self.assertEqual(errors.KeptError.__bases__, (ValueError,))

    def test_all_errors_are_derived_from_kept_error_alone(self):
        for name in FIELDS:
            self.assertEqual(getattr(errors, name).__bases__, (errors.KeptError,), name)

    def test_there_are_no_other_errors(self):
        found = [name for name, _ in inspect.getmembers(errors, inspect.isclass)]
        self.assertEqual(sorted(found), sorted(list(FIELDS) + ["KeptError"]))

    def test_fields_by_position_and_by_name(self):
        for name, fields in FIELDS.items():
            values = tuple(["any", 7, None][:len(fields)])
            for error in (getattr(errors, name)(*values), getattr(errors, name)(**dict(zip(fields, values)))):
                self.assertEqual(tuple(getattr(error, field) for field in fields), values)
                self.assertEqual(sorted(vars(error)), sorted(fields))

    def test_fields_must_be_passed(self):
        for name, fields in FIELDS.items():
            if fields:
                with self.assertRaises(TypeError):
                    getattr(errors, name)(*(list(fields) + ["one more"]))
                with self.assertRaises(TypeError):
                    getattr(errors, name)()

    def test_errors_are_not_equal(self):
        self.assertNotEqual(errors.BadNumber(1), errors.BadNumber(1))

    def test_they_can_be_raised_and_caught(self):
        with self.assertRaises(ValueError):
            raise errors.NothingToUndo()
        self.refuse(errors.Refused, ("full", 3), self.raise_refused, "full", 3)

    def raise_refused(self, reason, night):
        raise errors.Refused(reason, night)
