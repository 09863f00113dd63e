"""The opening words of "The interface": what exists, under which names, with which arguments."""

import importlib
import inspect
import unittest

FUNCTIONS = {
    "ratios": (
        "is_ratio(value)", "is_number(value)", "as_ratio(value)", "ratio(top, bottom=1)", "add(one, other)",
        "subtract(one, other)", "multiply(one, other)", "divide(one, other)", "compare(one, other)",
        "ratio_text(number)", "read_ratio(text)",
    ),
    "forms": (
        "is_form(value)", "constant_form(number)", "cell_form(name)", "names_in(form)", "add_forms(one, other)",
        "scale_form(number, form)", "substituted(form, name, other)", "value_at(form, values)", "form_text(form)",
    ),
    "formulas": ("parse_formula(text)",),
    "sheets": ("is_table(sheet, value)",),
    "conditions": (
        "conditions_of(sheet, *, wishes=(), held=(), limits=())",
        "left_side(sheet, condition, *, wishes=(), held=(), limits=())",
        "keeps(sheet, table, *, wishes=(), held=(), limits=())",
        "weighted_sum(sheet, weights, *, wishes=(), held=(), limits=())",
        "is_refusal(sheet, weights, *, wishes=(), held=(), limits=())",
    ),
    "solving": (
        "table_or_refusal(sheet, *, wishes=(), held=(), limits=())",
        "is_possible(sheet, *, wishes=(), held=(), limits=())",
        "limit_needed(sheet, name, side, *, wishes=(), held=(), limits=())",
        "is_spare(sheet, name, side, weights, *, wishes=(), held=(), limits=())",
    ),
    "ranges": (
        "least_value(sheet, name, *, wishes=(), held=(), limits=())",
        "greatest_value(sheet, name, *, wishes=(), held=(), limits=())",
        "is_bound(sheet, name, side, answer, *, wishes=(), held=(), limits=())",
        "is_endless(sheet, name, side, answer, *, wishes=(), held=(), limits=())",
        "value_range(sheet, name, *, wishes=(), held=(), limits=())",
        "nearest_value(sheet, name, number, *, wishes=(), held=(), limits=())",
    ),
    "changes": (
        "attempt(sheet, wishes, inputs, *, held=(), limits=())", "solve(sheet, wishes, *, held=(), limits=())",
        "is_solution(sheet, wishes, value, *, held=(), limits=())",
    ),
    "moves": (
        "is_move(sheet, value, *, held=())", "move_between(sheet, one, other)", "moved(sheet, move, factor)",
        "elementary_moves(sheet, *, held=())", "split_move(sheet, move, *, held=())",
        "is_split(sheet, move, parts, *, held=())",
    ),
    "wishes": (
        "largest_wishes(sheet, wishes, *, held=(), limits=())",
        "smallest_clashes(sheet, wishes, *, held=(), limits=())",
        "wishes_in_order(sheet, wishes, *, held=(), limits=())",
    ),
    "reasons": ("fixed_cells(sheet, names)", "smallest_fixing(sheet, names, name)", "releases(sheet, names, name)"),
    "roles": (
        "determined(sheet, names, name)", "independent(sheet, names)", "exchange(sheet, name, computed)",
        "rebased(sheet, names)",
    ),
    "compare": (
        "follows(sheet, form)", "same_tables(one, other)", "joined(one, other)", "is_join_refusal(one, other, weights)",
    ),
    "desk": ("replay(sheet, operations)",),
    "formatting": (
        "table_text(table)", "read_table(text)", "sheet_text(sheet)", "read_sheet(text)", "limits_text(limits)",
        "read_limits(text)", "weights_text(weights)", "read_weights(text)", "desk_text(desk)", "read_desk(text)",
    ),
}
METHODS = {
    "sheets.Sheet": (
        "__init__(self, rows=())", "rows(self)", "cell_names(self)", "input_names(self)", "computed_names(self)",
        "form_of(self, name)", "form_by_inputs(self, name)", "drivers_of(self, name)", "users_of(self, name)",
        "own_table(self)", "value_of(self, name)", "with_input(self, name, number)", "with_table(self, table)",
        "with_row(self, row)", "without_cell(self, name)", "__len__(self)", "__eq__(self, other)",
    ),
    "desk.Desk": (
        "__init__(self, sheet)", "present_sheet(self)", "present_table(self)", "value_of(self, name)",
        "held_cells(self)", "present_limits(self)", "mark_words(self)", "copy(self)", "add_input(self, name, number)",
        "add_formula(self, name, text)", "remove(self, name)", "set_values(self, wishes)", "define(self, name, text)",
        "hold(self, name)", "free(self, name)", "limit(self, name, low, high)", "unlimit(self, name)",
        "exchange_roles(self, name, computed)", "rename(self, name, other)", "back(self, word)", "mark(self, word)",
        "undo(self)", "redo(self)", "history(self)", "__len__(self)", "__eq__(self, other)",
    ),
    "console.Console": ("__init__(self)", "enter(self, line)", "desk_copy(self)"),
}


class FunctionsTest(unittest.TestCase):

    def test_functions_are_defined_as_written_in_their_own_file(self):
        for file, lines in FUNCTIONS.items():
            module = importlib.import_module("backsheet." + file)
            for line in lines:
                with self.subTest(file, line=line):
                    function = getattr(module, line.partition("(")[0])
                    self.assertTrue(inspect.isfunction(function))
                    self.assertEqual(function.__module__, "backsheet." + file)
                    self.assertEqual(function.__name__ + str(inspect.signature(function)), line)


class MethodsTest(unittest.TestCase):

    def test_methods_are_defined_as_written_in_their_own_class(self):
        for place, lines in METHODS.items():
            file, _, word = place.partition(".")
            kind = getattr(importlib.import_module("backsheet." + file), word)
            self.assertEqual(kind.__module__, "backsheet." + file)
            for line in lines:
                with self.subTest(place, line=line):
                    method = vars(kind)[line.partition("(")[0]]
                    self.assertTrue(inspect.isfunction(method))
                    self.assertEqual(method.__name__ + str(inspect.signature(method)), line)


if __name__ == "__main__":
    unittest.main()
