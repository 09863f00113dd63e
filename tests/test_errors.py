"""Promises [5] and [54]: the exceptions."""

import inspect
import itertools
import unittest

from backsheet import errors
from backsheet.errors import SheetError

FIELDS = {
    "ZeroBottom": (), "InvalidNumber": ("value",), "InvalidText": ("text",), "FormulaSyntax": ("position",),
    "NotLinear": ("position",), "ZeroDivisor": ("position",), "InvalidRow": ("index",), "InvalidName": ("name",),
    "DuplicateCell": ("name",), "BadFormula": ("name", "word", "position"), "UnknownCell": ("name",),
    "CircularCell": ("name",), "NotInput": ("name",), "NotComputed": ("name",), "InvalidTable": ("value",),
    "CellInUse": ("name", "user"), "InvalidWish": ("index",), "InvalidLimit": ("index",), "EmptyLimit": ("name",),
    "UnknownCondition": ("condition",), "InvalidWeights": (), "UnknownSide": ("side",), "InvalidMove": ("move",),
    "InvalidForm": ("form",), "UnlikeCells": ("name",), "AlreadyHeld": ("name",), "NotHeld": ("name",),
    "NoLimit": ("name",), "Refused": ("weights",), "RolesKept": ("move",), "NoMark": ("word",),
    "NothingToUndo": (), "NothingToRedo": (), "InvalidOperation": ("index",), "BadText": ("at",),
    "BadCommand": ("line",),
}

VALUES = (
    0, -7, 10 ** 5000, True, False, None, "", "a\nb", "sum", (), (1, 2), ((), ("x", None)), [], [1, [True, "b"]],
)


def class_named(name):
    return getattr(errors, name)


class ClassesTest(unittest.TestCase):

    def test_all_exceptions_of_the_document_and_no_others(self):
        found = [name for name, value in vars(errors).items()
                 if inspect.isclass(value) and value.__module__ == "backsheet.errors"]
        self.assertEqual(sorted(found), sorted([*FIELDS, "SheetError"]))

    def test_sheet_error_is_a_value_error(self):
        self.assertEqual(SheetError.__bases__, (ValueError,))
        self.assertEqual(vars(SheetError()), {})

    def test_each_is_a_direct_subclass_of_sheet_error_alone(self):
        for name in FIELDS:
            with self.subTest(name):
                self.assertEqual(class_named(name).__bases__, (SheetError,))


class FieldsTest(unittest.TestCase):

    def check_fields(self, error, fields, values):
        self.assertEqual(sorted(vars(error)), sorted(fields))
        for field, value in zip(fields, values):
            self.assertIs(getattr(error, field), value)

    def test_fields_by_position_and_by_name_with_any_values(self):
        for name, fields in FIELDS.items():
            for at in range(len(VALUES)):
                values = [VALUES[(at + k) % len(VALUES)] for k in range(len(fields))]
                with self.subTest(name, at=at):
                    self.check_fields(class_named(name)(*values), fields, values)
                    self.check_fields(class_named(name)(**dict(zip(fields, values))), fields, values)

    def test_names_of_fields_in_any_order(self):
        for name in ("BadFormula", "CellInUse"):
            fields = FIELDS[name]
            given = {field: field + "!" for field in fields}
            for order in itertools.permutations(fields):
                with self.subTest(name, order=order):
                    error = class_named(name)(**{field: given[field] for field in order})
                    self.check_fields(error, fields, [given[field] for field in fields])

    def test_position_and_name_mixed(self):
        error = errors.BadFormula("a", position=3, word="syntax")
        self.assertEqual((error.name, error.word, error.position), ("a", "syntax", 3))

    def test_a_missing_field_is_no_exception_of_this_kind(self):
        for name, fields in FIELDS.items():
            if fields:
                with self.subTest(name), self.assertRaises(TypeError):
                    class_named(name)(*range(len(fields) - 1))


class RaisingTest(unittest.TestCase):

    def test_raised_and_caught_by_class_by_sheet_error_and_by_value_error(self):
        for name, fields in FIELDS.items():
            for caught in (class_named(name), SheetError, ValueError):
                with self.subTest(name, caught=caught):
                    error = class_named(name)(*range(len(fields)))
                    with self.assertRaises(caught) as seen:
                        raise error
                    self.assertIs(seen.exception, error)

    def test_sheet_error_itself_can_be_raised(self):
        for caught in (SheetError, ValueError):
            with self.assertRaises(caught):
                raise SheetError()

    def test_not_caught_by_another_class_of_the_package(self):
        for name, fields in FIELDS.items():
            for other in FIELDS:
                if other != name:
                    self.assertNotIsInstance(class_named(name)(*fields), class_named(other))


if __name__ == "__main__":
    unittest.main()
