"""The opening words of "The interface": what exists, under which names, with which arguments."""

import importlib
import inspect
import unittest

FUNCTIONS = {
    "ratios": (
        "is_ratio(value)", "is_number(value)", "as_ratio(value)", "ratio(top, bottom=1)", "add(one, other)",
        "subtract(one, other)", "multiply(one, other)", "divide(one, other)", "compare(one, other)",
        "ratio_text(number)", "read_ratio(text)",
    ),
    "forms": (
        "is_form(value)", "constant_form(number)", "cell_form(name)", "names_in(form)", "add_forms(one, other)",
        "scale_form(number, form)", "substituted(form, name, other)", "value_at(form, values)", "form_text(form)",
    ),
}


class FunctionsTest(unittest.TestCase):

    def test_functions_are_defined_as_written_in_their_own_file(self):
        for file, lines in FUNCTIONS.items():
            module = importlib.import_module("backsheet." + file)
            for line in lines:
                with self.subTest(file, line=line):
                    function = getattr(module, line.partition("(")[0])
                    self.assertTrue(inspect.isfunction(function))
                    self.assertEqual(function.__module__, "backsheet." + file)
                    self.assertEqual(function.__name__ + str(inspect.signature(function)), line)


if __name__ == "__main__":
    unittest.main()
