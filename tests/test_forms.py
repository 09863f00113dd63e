"""Promises [9], [10] and [11], and [3] and [4] where these speak of forms."""

import unittest
from fractions import Fraction

from backsheet.errors import SheetError, UnknownCell
from backsheet.forms import (
    add_forms, cell_form, constant_form, form_text, is_form, is_name, names_in, scale_form, substituted, value_at,
)

LONG = 7 * 10 ** 199 + 3
HUGE = 10 ** 5000

EMPTY = ((), (0, 1))
DOUBLE = ((("a", (2, 1)),), (1, 1))
THREE = ((("a", (-1, 1)), ("b", (1, 2)), ("total", (3, 1))), (-3, 1))

GOOD_FORMS = (
    EMPTY, DOUBLE, THREE, ((), (5, 1)), ((), (-1, 3)), ((), (HUGE, 3)),
    ((("a", (1, 1)), ("aa", (1, 1)), ("ab", (1, 1)), ("b", (1, 1))), (0, 1)),
    ((("abcdefgh", (LONG, 2)), ("z", (-1, LONG))), (LONG, 1)),
    ((("averages", (1, 1)), ("summ", (1, 1))), (0, 1)),
    ((("a", (HUGE, 3)),), (0, 1)),
)

NO_NAMES = (
    "sum", "average", "", "abcdefghi", "averages" * 2, "A", "aB", "a1", "a_b", "a b", " a", "a ", "a\n", "-", "1",
    "\u00e4", "\u0430", None, True, 1, (), ("a",), ["a"],
)


def one_term(name, factor=(1, 1), constant=(0, 1)):
    return (((name, factor),), constant)


def fraction(number):
    return Fraction(number) if isinstance(number, int) else Fraction(*number)


def value_by_fractions(form, numbers):
    terms, constant = form
    return sum([fraction(factor) * fraction(numbers[name]) for name, factor in terms], fraction(constant))


class NamesTest(unittest.TestCase):

    def test_names(self):
        for name in ("a", "z", "ab", "total", "abcdefgh", "summ", "su", "averages", "averag", "suma", "input"):
            self.assertIs(is_name(name), True)
            self.assertIs(is_form(one_term(name)), True)

    def test_no_names(self):
        for name in NO_NAMES:
            with self.subTest(name=name):
                self.assertIs(is_name(name), False)
                self.assertIs(is_form(one_term(name)), False)


class IsFormTest(unittest.TestCase):

    def test_forms(self):
        for form in GOOD_FORMS:
            self.assertIs(is_form(form), True)

    def check_none(self, *values):
        for value in values:
            with self.subTest(value=value):
                self.assertIs(is_form(value), False)

    def test_other_values(self):
        self.check_none(None, True, False, 0, 1, "", "a", "ab", (), [], (1, 1), (1, 2), ("a", (1, 1)), ((),), ((), ()))

    def test_wrong_order_and_name_twice(self):
        a, b, aa = ("a", (1, 1)), ("b", (1, 1)), ("aa", (1, 1))
        self.check_none(((b, a), (0, 1)), ((aa, a), (0, 1)), ((a, b, aa), (0, 1)))
        self.check_none(((a, a), (0, 1)), ((a, b, b), (0, 1)), ((a, ("a", (2, 1))), (0, 1)), ((a, b, a), (0, 1)))

    def test_zero_in_a_term(self):
        self.check_none(one_term("a", (0, 1)), ((("a", (1, 1)), ("b", (0, 1))), (0, 1)), one_term("a", 0))

    def test_no_ratio_in_a_term(self):
        for number in ((2, 4), (1, 0), (1, -1), (0, 2), 1, -2, True, None, "1", (), (1,), (1, 1, 1), (True, 1),
            (1, True)):
            self.check_none(one_term("a", number))

    def test_no_ratio_as_the_constant(self):
        for number in ((2, 4), (1, 0), (1, -1), (0, 2), 0, 5, True, False, None, "1", (), (1,), (1, 1, 1), (False, 1)):
            self.check_none(((), number), one_term("a", (1, 1), number))

    def test_a_list_at_each_place(self):
        self.check_none(
            [(("a", (2, 1)),), (1, 1)], ([("a", (2, 1))], (1, 1)), ((["a", (2, 1)],), (1, 1)),
            ((("a", [2, 1]),), (1, 1)), ((("a", (2, 1)),), [1, 1]), ([], (0, 1)), ((["a"], (2, 1)), (1, 1)),
            (((["a"], (2, 1)),), (1, 1)), ((("a", ([2], 1)),), (1, 1)),
        )

    def test_a_part_more_or_less(self):
        self.check_none(
            ((("a", (2, 1)),),), ((("a", (2, 1)),), (1, 1), ()), ((("a", (2, 1), 1),), (1, 1)), ((("a",),), (1, 1)),
            (((),), (1, 1)), (("a", (2, 1)), (1, 1)), (("ab",), (1, 1)), ("ab", (1, 1)), ("", (1, 1)), (None, (1, 1)),
        )


class MakingTest(unittest.TestCase):

    def test_constant_form(self):
        for number, constant in (
            (0, (0, 1)), ((0, 1), (0, 1)), (5, (5, 1)), (-5, (-5, 1)), ((1, 2), (1, 2)), ((-7, 3), (-7, 3)),
            (LONG, (LONG, 1)), ((-1, LONG), (-1, LONG)), (HUGE, (HUGE, 1)),
        ):
            self.assertEqual(constant_form(number), ((), constant))
            self.assertIs(is_form(constant_form(number)), True)

    def test_cell_form(self):
        for name in ("a", "z", "total", "abcdefgh", "summ"):
            self.assertEqual(cell_form(name), (((name, (1, 1)),), (0, 1)))
            self.assertIs(is_form(cell_form(name)), True)

    def test_names_in(self):
        self.assertEqual(names_in(EMPTY), ())
        self.assertEqual(names_in(((), (5, 1))), ())
        self.assertEqual(names_in(DOUBLE), ("a",))
        self.assertEqual(names_in(THREE), ("a", "b", "total"))
        self.assertEqual(names_in(cell_form("z")), ("z",))


class AddingTest(unittest.TestCase):

    def test_different_names_are_put_in_order(self):
        self.assertEqual(
            add_forms(((("b", (1, 2)), ("d", (3, 1))), (1, 1)), ((("a", (5, 1)), ("c", (-1, 1))), (2, 1))),
            ((("a", (5, 1)), ("b", (1, 2)), ("c", (-1, 1)), ("d", (3, 1))), (3, 1)))

    def test_equal_names_are_added(self):
        self.assertEqual(add_forms(DOUBLE, one_term("a", (1, 3), (-1, 2))), one_term("a", (7, 3), (1, 2)))

    def test_terms_that_cancel(self):
        self.assertEqual(add_forms(cell_form("a"), one_term("a", (-1, 1))), EMPTY)
        self.assertEqual(add_forms(THREE, one_term("b", (-1, 2), (3, 1))),
                         ((("a", (-1, 1)), ("total", (3, 1))), (0, 1)))
        self.assertEqual(add_forms(one_term("a", (LONG, 2), (LONG, 1)), one_term("a", (-LONG, 2))), ((), (LONG, 1)))

    def test_nothing_added(self):
        for form in GOOD_FORMS:
            self.assertEqual(add_forms(form, EMPTY), form)
            self.assertEqual(add_forms(EMPTY, form), form)
            self.assertEqual(add_forms(form, scale_form(-1, form)), EMPTY)


class ScalingTest(unittest.TestCase):

    def test_factors(self):
        self.assertEqual(scale_form(2, THREE), ((("a", (-2, 1)), ("b", (1, 1)), ("total", (6, 1))), (-6, 1)))
        self.assertEqual(scale_form((-1, 3), THREE), ((("a", (1, 3)), ("b", (-1, 6)), ("total", (-1, 1))), (1, 1)))
        self.assertEqual(scale_form(LONG, DOUBLE), one_term("a", (2 * LONG, 1), (LONG, 1)))
        self.assertEqual(scale_form((2, 1), DOUBLE), scale_form(2, DOUBLE))

    def test_one_and_zero(self):
        for form in GOOD_FORMS:
            self.assertEqual(scale_form(1, form), form)
            self.assertEqual(scale_form((1, 1), form), form)
            self.assertEqual(scale_form(0, form), EMPTY)
            self.assertEqual(scale_form((0, 1), form), EMPTY)


class SubstitutedTest(unittest.TestCase):

    def test_another_form_in_the_place_of_a_cell(self):
        self.assertEqual(substituted(DOUBLE, "a", one_term("b", (3, 1), (5, 1))), one_term("b", (6, 1), (11, 1)))
        self.assertEqual(substituted(DOUBLE, "a", constant_form((1, 2))), ((), (2, 1)))
        self.assertEqual(substituted(THREE, "total", one_term("b", (1, 1), (1, 1))),
                         ((("a", (-1, 1)), ("b", (7, 2))), (0, 1)))

    def test_a_name_that_the_form_does_not_have(self):
        for name in ("c", "", "sum", "A", "aa"):
            self.assertEqual(substituted(THREE, name, DOUBLE), THREE)
        self.assertEqual(substituted(EMPTY, "a", DOUBLE), EMPTY)

    def test_a_cell_replaced_by_a_form_that_names_it_again(self):
        self.assertEqual(substituted(DOUBLE, "a", one_term("a", (1, 1), (1, 1))), one_term("a", (2, 1), (3, 1)))
        self.assertEqual(substituted(DOUBLE, "a", ((("a", (3, 1)), ("b", (-1, 1))), (0, 1))),
                         ((("a", (6, 1)), ("b", (-2, 1))), (1, 1)))
        self.assertEqual(substituted(THREE, "a", cell_form("a")), THREE)

    def test_terms_that_cancel(self):
        self.assertEqual(substituted(THREE, "a", ((("b", (1, 2)), ("total", (3, 1))), (-3, 1))), EMPTY)

    def test_the_value_is_that_of_the_replaced_cell(self):
        numbers = {"a": (1, 2), "b": -3, "total": (5, 7), "abcdefgh": 2, "z": (-1, 9), "aa": 4, "ab": 1,
                   "summ": 6, "averages": (2, 9)}
        for form in GOOD_FORMS:
            for name in numbers:
                for other in GOOD_FORMS:
                    replaced = {**numbers, name: value_at(other, list(numbers.items()))}
                    found = value_at(substituted(form, name, other), list(numbers.items()))
                    self.assertTrue(found == value_at(form, list(replaced.items())))
                    self.assertTrue(is_form(substituted(form, name, other)))


class ValueTest(unittest.TestCase):

    def test_example_of_the_document(self):
        self.assertEqual(value_at(((("a", (2, 1)),), (1, 1)), [("a", 3)]), (7, 1))

    def test_integers_and_ratios_in_any_order_as_tuple_or_list(self):
        pairs = [("total", (1, 3)), ("a", 4), ("b", (-2, 1))]
        for values in (pairs, tuple(pairs), pairs[::-1], tuple(pairs[::-1])):
            self.assertEqual(value_at(THREE, values), (-7, 1))

    def test_further_names(self):
        pairs = [("c", 9), ("b", 2), ("zz", 0), ("a", (1, 1)), ("total", 0), ("", 5), ("sum", 8)]
        self.assertEqual(value_at(THREE, pairs), (-3, 1))
        self.assertEqual(value_at(EMPTY, pairs), (0, 1))

    def test_no_names(self):
        self.assertEqual(value_at(((), (5, 3)), []), (5, 3))
        self.assertEqual(value_at(EMPTY, ()), (0, 1))

    def test_same_as_fractions(self):
        for number in (0, 1, -7, (3, 4), (-LONG, 11)):
            for other in (2, (-1, 3), LONG):
                numbers = {"a": number, "b": other, "total": (5, 6)}
                expected = value_by_fractions(THREE, numbers)
                self.assertEqual(value_at(THREE, list(numbers.items())), (expected.numerator, expected.denominator))

    def test_unknown_cell_is_the_first_missing_name_in_ascending_order(self):
        for values, name in (
            ([], "a"), ((), "a"), ([("total", 1)], "a"), ([("total", 1), ("b", 1)], "a"), ([("a", 1)], "b"),
            ([("total", 1), ("a", 1)], "b"), ([("b", 1), ("a", 1)], "total"), ([("zz", 1), ("c", 1), ("A", 1)], "a"),
        ):
            with self.subTest(values=values), self.assertRaises(UnknownCell) as seen:
                value_at(THREE, values)
            self.assertEqual(seen.exception.name, name)
            self.assertIsInstance(seen.exception, SheetError)


class TextTest(unittest.TestCase):

    def test_example_of_the_document(self):
        self.assertEqual(form_text(((("a", (-1, 1)), ("b", (1, 2))), (-3, 1))), "-a + 1/2*b - 3")

    def test_forms_without_terms(self):
        for number, text in (
            ((0, 1), "0"), ((5, 1), "5"), ((-5, 1), "-5"), ((1, 2), "1/2"), ((-7, 3), "-7/3"), ((1, 1), "1"),
            ((-1, 1), "-1"),
        ):
            self.assertEqual(form_text(((), number)), text)

    def test_one_term(self):
        for factor, text in (
            ((1, 1), "a"), ((-1, 1), "-a"), ((2, 1), "2*a"), ((-2, 1), "-2*a"), ((1, 2), "1/2*a"),
            ((-1, 2), "-1/2*a"), ((11, 3), "11/3*a"), ((-10, 1), "-10*a"), ((1, 10), "1/10*a"),
        ):
            self.assertEqual(form_text(one_term("a", factor)), text)
            self.assertEqual(form_text(one_term("a", factor, (3, 1))), text + " + 3")
            self.assertEqual(form_text(one_term("a", factor, (-3, 1))), text + " - 3")
            self.assertEqual(form_text(one_term("a", factor, (1, 1))), text + " + 1")
            self.assertEqual(form_text(one_term("a", factor, (-1, 2))), text + " - 1/2")

    def test_several_terms(self):
        self.assertEqual(form_text(THREE), "-a + 1/2*b + 3*total - 3")
        self.assertEqual(form_text(((("a", (1, 1)), ("b", (-1, 1)), ("c", (-5, 2)), ("d", (1, 1))), (0, 1))),
                         "a - b - 5/2*c + d")
        self.assertEqual(form_text(((("total", (-3, 4)), ("z", (-1, 1))), (1, 3))), "-3/4*total - z + 1/3")

    def test_numbers_of_more_digits_than_python_writes(self):
        ones, nines = 10 ** 5000, 10 ** 6000 - 1
        text = form_text(((("a", (-ones, 3)), ("b", (nines, 1))), (-1, ones)))
        expected = "-1" + "0" * 5000 + "/3*a + " + "9" * 6000 + "*b - 1/1" + "0" * 5000
        self.assertTrue(text == expected)
        self.assertTrue(form_text(((), (-nines, 1))) == "-" + "9" * 6000)


class ConventionsTest(unittest.TestCase):

    def test_a_passed_list_is_the_same_after_the_call(self):
        values = [("total", 1), ("b", (1, 2)), ("a", 0), ("c", 5)]
        before = list(values)
        value_at(THREE, values)
        self.assertEqual(values, before)
        with self.assertRaises(UnknownCell):
            value_at(one_term("x"), values)
        self.assertEqual(values, before)
        no_form = [[["a", [2, 1]]], [1, 1]]
        self.assertIs(is_form(no_form), False)
        self.assertEqual(no_form, [[["a", [2, 1]]], [1, 1]])

    def test_equal_calls_return_equal_forms_of_tuples(self):
        for make in (lambda: add_forms(THREE, DOUBLE), lambda: scale_form((2, 3), THREE),
                     lambda: substituted(THREE, "b", DOUBLE), lambda: constant_form(3), lambda: cell_form("a")):
            self.assertEqual(make(), make())
            self.assertIs(is_form(make()), True)

    def test_what_was_returned_may_be_passed_back_beyond_the_sizes(self):
        form = scale_form((HUGE, 3), add_forms(THREE, one_term("z", (1, HUGE))))
        self.assertIs(is_form(form), True)
        numbers = {"a": HUGE, "b": (1, HUGE), "total": 0, "z": -HUGE}
        value = value_at(form, tuple(numbers.items()))
        expected = value_by_fractions(form, numbers)
        self.assertTrue(value == (expected.numerator, expected.denominator))
        self.assertTrue(value_at(one_term("a"), [("a", value)]) == value)

    def test_arguments_by_name(self):
        self.assertIs(is_form(value=EMPTY), True)
        self.assertEqual(constant_form(number=2), ((), (2, 1)))
        self.assertEqual(cell_form(name="a"), one_term("a"))
        self.assertEqual(names_in(form=THREE), ("a", "b", "total"))
        self.assertEqual(add_forms(other=EMPTY, one=DOUBLE), DOUBLE)
        self.assertEqual(scale_form(form=DOUBLE, number=2), one_term("a", (4, 1), (2, 1)))
        self.assertEqual(substituted(other=constant_form(1), name="a", form=DOUBLE), ((), (3, 1)))
        self.assertEqual(value_at(values=[("a", 1)], form=DOUBLE), (3, 1))
        self.assertEqual(form_text(form=DOUBLE), "2*a + 1")


if __name__ == "__main__":
    unittest.main()
