"""Promises [6], [7] and [8], and [3] and [4] where these speak of numbers."""

import sys
import unittest
from fractions import Fraction

from backsheet import ratios
from backsheet.errors import InvalidNumber, InvalidText, ZeroBottom
from backsheet.ratios import (
    add, as_ratio, compare, divide, is_number, is_ratio, multiply, ratio, ratio_text, read_ratio, subtract,
)

LONG = 7 * 10 ** 199 + 3
LONG_OTHER = 10 ** 200 - 1

GOOD_RATIOS = (
    (0, 1), (1, 1), (-1, 1), (5, 1), (1, 2), (-3, 2), (7, 3), (-10, 9), (LONG, 1), (-LONG, 10 ** 199),
    (1, LONG), (10 ** 5000, 3), (-1, 10 ** 5000),
)
WHOLE_NUMBERS = (0, 1, -1, 2, -12, LONG, -LONG_OTHER, 10 ** 5000)
NO_NUMBERS = (
    True, False, None, "", "1", "1/2", "a", (), (1,), (1, 2, 3), (1, 1, 1), [], [1, 2], [0, 1], [[1, 2]],
    ((1, 2),), (1, 0), (0, 0), (-1, 0), (1, -1), (1, -2), (-3, -2), (0, -1), (2, 4), (-2, 4), (3, 3), (-3, 3),
    (6, 2), (LONG * 7, 7), (0, 2), (0, 10), (True, 1), (False, 1), (1, True), (3, True), (True, True),
    (True, 2), (None, 1), (1, None), ("1", "2"), (1, "2"), ((1, 2), 1), (1, (1, 1)), ([1], 1), (1, [2]),
)

PLAIN = (0, 1, -1, 2, -3, 6, (0, 1), (1, 1), (1, 2), (-1, 2), (2, 3), (-7, 4), (5, 6), (-9, 1))
LONG_NUMBERS = (LONG, -LONG_OTHER, (LONG, LONG_OTHER), (-LONG_OTHER, LONG), (1, LONG), (-3, 7 * 10 ** 150 + 1))


def fraction(number):
    return Fraction(number) if isinstance(number, int) else Fraction(*number)


def pair(value):
    return (value.numerator, value.denominator)


class KindsTest(unittest.TestCase):

    def test_ratios(self):
        for value in GOOD_RATIOS:
            self.assertIs(is_ratio(value), True)
            self.assertIs(is_number(value), True)

    def test_integers_are_numbers_but_no_ratios(self):
        for value in WHOLE_NUMBERS:
            self.assertIs(is_ratio(value), False)
            self.assertIs(is_number(value), True)

    def test_other_values_are_neither(self):
        for value in NO_NUMBERS:
            with self.subTest(value=value):
                self.assertIs(is_ratio(value), False)
                self.assertIs(is_number(value), False)

    def test_example_of_the_document(self):
        self.assertIs(is_ratio((2, 4)), False)


class AsRatioTest(unittest.TestCase):

    def test_ratio_stays(self):
        for value in GOOD_RATIOS:
            self.assertEqual(as_ratio(value), value)

    def test_integer_gets_bottom_one(self):
        for value in WHOLE_NUMBERS:
            self.assertEqual(as_ratio(value), (value, 1))

    def test_invalid_number_has_the_value(self):
        for value in NO_NUMBERS:
            with self.subTest(value=value), self.assertRaises(InvalidNumber) as seen:
                as_ratio(value)
            self.assertEqual(seen.exception.value, value)
            self.assertIs(seen.exception.value.__class__, value.__class__)


class RatioTest(unittest.TestCase):

    def test_example_of_the_document(self):
        self.assertEqual(ratio(6, -4), (-3, 2))

    def test_without_bottom(self):
        for top in (0, 1, -1, 12, -30, LONG):
            self.assertEqual(ratio(top), (top, 1))

    def test_signs_in_both_places(self):
        self.assertEqual(ratio(6, 4), (3, 2))
        self.assertEqual(ratio(-6, 4), (-3, 2))
        self.assertEqual(ratio(6, -4), (-3, 2))
        self.assertEqual(ratio(-6, -4), (3, 2))
        self.assertEqual(ratio(5, -1), (-5, 1))
        self.assertEqual(ratio(-5, -5), (1, 1))

    def test_top_zero(self):
        for bottom in (1, -1, 2, -9, LONG):
            self.assertEqual(ratio(0, bottom), (0, 1))

    def test_bottom_zero(self):
        for top in (0, 1, -1, LONG):
            with self.assertRaises(ZeroBottom):
                ratio(top, 0)

    def test_long_common_divisor(self):
        self.assertEqual(ratio(LONG * 6, LONG * -4), (-3, 2))

    def test_same_as_fractions(self):
        for top in range(-12, 13):
            for bottom in [*range(-12, 0), *range(1, 13)]:
                self.assertEqual(ratio(top, bottom), pair(Fraction(top, bottom)))


class OperationsTest(unittest.TestCase):

    def check(self, function, expected, one, other):
        with self.subTest(function.__name__, one=one, other=other):
            found = function(one, other)
            self.assertEqual(found, pair(expected))
            self.assertIs(is_ratio(found), True)

    def check_all(self, one, other):
        left, right = fraction(one), fraction(other)
        self.check(add, left + right, one, other)
        self.check(subtract, left - right, one, other)
        self.check(multiply, left * right, one, other)
        if right != 0:
            self.check(divide, left / right, one, other)
        self.assertIs(compare(one, other).__class__, int)
        self.assertEqual(compare(one, other), (left > right) - (left < right))

    def test_integers_and_ratios_and_both_mixed(self):
        for one in PLAIN:
            for other in PLAIN:
                self.check_all(one, other)

    def test_numbers_of_200_digits(self):
        for one in LONG_NUMBERS:
            for other in [*LONG_NUMBERS, 0, (1, 2), -1]:
                self.check_all(one, other)
                self.check_all(other, one)

    def test_divide_by_zero_in_both_ways_of_writing_it(self):
        for one in [*PLAIN, *LONG_NUMBERS]:
            for zero in (0, (0, 1)):
                with self.subTest(one=one, zero=zero), self.assertRaises(ZeroBottom):
                    divide(one, zero)

    def test_examples(self):
        self.assertEqual(add((1, 2), (1, 3)), (5, 6))
        self.assertEqual(subtract(1, (1, 3)), (2, 3))
        self.assertEqual(subtract((1, 3), 1), (-2, 3))
        self.assertEqual(multiply((2, 3), (3, 2)), (1, 1))
        self.assertEqual(divide(1, -2), (-1, 2))
        self.assertEqual(divide(0, (-5, 7)), (0, 1))

    def test_compare(self):
        self.assertEqual(compare((1, 3), (1, 2)), -1)
        self.assertEqual(compare((1, 2), (1, 3)), 1)
        self.assertEqual(compare(2, (2, 1)), 0)
        self.assertEqual(compare((-1, 2), (-1, 3)), -1)
        self.assertEqual(compare((LONG, LONG_OTHER), (LONG + 1, LONG_OTHER)), -1)
        self.assertEqual(compare(-1, 0), -1)

    def test_arguments_by_name(self):
        self.assertIs(is_ratio(value=(1, 2)), True)
        self.assertIs(is_number(value=None), False)
        self.assertEqual(as_ratio(value=4), (4, 1))
        self.assertEqual(ratio(bottom=4, top=6), (3, 2))
        self.assertEqual(ratio(top=6), (6, 1))
        self.assertEqual(add(other=1, one=2), (3, 1))
        self.assertEqual(subtract(other=1, one=3), (2, 1))
        self.assertEqual(multiply(other=3, one=2), (6, 1))
        self.assertEqual(divide(other=4, one=2), (1, 2))
        self.assertEqual(compare(other=4, one=2), -1)
        self.assertEqual(ratio_text(number=(1, 2)), "1/2")
        self.assertEqual(read_ratio(text="1/2"), (1, 2))


class WritingTest(unittest.TestCase):

    def test_texts(self):
        for number, text in (
            (0, "0"), ((0, 1), "0"), (7, "7"), (-7, "-7"), ((7, 1), "7"), ((1, 2), "1/2"), ((-5, 2), "-5/2"),
            (100, "100"), ((-100, 7), "-100/7"), ((1, 1000), "1/1000"), (LONG, "7" + "0" * 198 + "3"),
            ((-LONG_OTHER, 10), "-" + "9" * 200 + "/10"),
        ):
            self.assertEqual(ratio_text(number), text)

    def test_same_as_python_where_python_takes_them(self):
        for digits in [*range(1, 20), *range(60, 70), *range(125, 132), *range(190, 195), 256, 600]:
            for number in (10 ** digits - 1, 10 ** digits, 10 ** digits + 1, 12345678901 ** digits % 10 ** digits):
                self.assertEqual(ratio_text(number), str(number))
                self.assertEqual(ratio_text(-number), str(-number))
                self.assertEqual(read_ratio(str(number)), (number, 1))
                self.assertEqual(read_ratio("-" + str(number)), (-number, 1))

    def test_more_digits_than_python_takes(self):
        for digits in (4299, 4300, 4301, 5000, 6400, 20001):
            for number, text in (
                (10 ** digits - 1, "9" * digits), (10 ** digits, "1" + "0" * digits),
                ((10 ** digits - 1) // 9 * 7, "7" * digits), (10 ** digits + 4, "1" + "0" * (digits - 1) + "4"),
            ):
                with self.subTest(digits=digits, first=text[:1]):
                    self.assertTrue(ratio_text(number) == text)
                    self.assertTrue(ratio_text((-number, 1)) == "-" + text)
                    self.assertTrue(read_ratio(text) == (number, 1))
                    self.assertTrue(read_ratio("-" + text) == (-number, 1))

    def test_long_tops_and_bottoms(self):
        nines, power = 10 ** 9000 - 1, 10 ** 8000
        text = "-" + "9" * 9000 + "/1" + "0" * 8000
        self.assertTrue(ratio_text((-nines, power)) == text)
        self.assertTrue(read_ratio(text) == (-nines, power))
        self.assertTrue(read_ratio("9" * 1000 + "." + "9" * 8000) == (nines, power))

    def test_not_bound_to_the_limit_that_python_is_set_to(self):
        before = sys.get_int_max_str_digits()
        sys.set_int_max_str_digits(sys.int_info.str_digits_check_threshold)
        try:
            self.assertEqual(read_ratio(ratio_text(10 ** 3000 + 1)), (10 ** 3000 + 1, 1))
        finally:
            sys.set_int_max_str_digits(before)

    def test_written_and_read_back(self):
        for number in [*PLAIN, *LONG_NUMBERS, *GOOD_RATIOS]:
            self.assertTrue(read_ratio(ratio_text(number)) == as_ratio(number))


class ReadingTest(unittest.TestCase):

    def test_texts(self):
        for text, number in (
            ("-2.50", (-5, 2)), ("0", (0, 1)), ("7", (7, 1)), ("-7", (-7, 1)), ("007", (7, 1)), ("-007", (-7, 1)),
            ("000", (0, 1)), ("-0", (0, 1)), ("-0.00", (0, 1)), ("-0/5", (0, 1)), ("0.0", (0, 1)), ("0/3", (0, 1)),
            ("1.5", (3, 2)), ("01.50", (3, 2)), ("0.125", (1, 8)), ("-0.5", (-1, 2)), ("3.000", (3, 1)),
            ("10.01", (1001, 100)), ("0.001", (1, 1000)), ("1/2", (1, 2)), ("-1/2", (-1, 2)), ("6/4", (3, 2)),
            ("-06/004", (-3, 2)), ("4/2", (2, 1)), ("10/1", (10, 1)), ("5/010", (1, 2)), ("12345/1", (12345, 1)),
        ):
            with self.subTest(text):
                self.assertEqual(read_ratio(text), number)
                self.assertIs(is_ratio(read_ratio(text)), True)

    def test_wrong_texts(self):
        for text in (
            "", "-", "--1", "---", "+1", "-+1", "+-1", "+", "1-", "1 ", " 1", "- 1", "1 /2", "1/ 2", "1 / 2", "1. 5",
            "1 2", "\n", "1\n", "\n1", "1.5\n", "1/2\n", "1\n2", ".", "/", ".5", "5.", "-.5", "-5.", "/5", "5/",
            "-/5", "-5/", "./", "/.", "1/0", "1/00", "0/0", "-1/000", "1/-2", "1/+2", "1/--2", "1.-5", "1..5",
            "1.5.5", "1//2", "1/2/3", "1.5/2", "1/2.5", "1./2", "1/.2", "1/2.", "a", "1a", "a1", "1e5", "1E5", "0x1",
            "1_000", "1,5", "1:2", "(1)", "1*2", "1\\2", "inf", "nan", "None", "1/a", "1.a", "- ", "1;", "!",
        ):
            with self.subTest(text), self.assertRaises(InvalidText) as seen:
                read_ratio(text)
            self.assertEqual(seen.exception.text, text)

    def test_only_the_digits_0_to_9(self):
        for text in ("\u0663", "\u00b2", "1.\u0663", "1/\u0663", "\uff11"):
            with self.subTest(text), self.assertRaises(InvalidText):
                read_ratio(text)

    def test_long_wrong_texts(self):
        for text in ("9" * 6000 + "/" + "0" * 6000, "9" * 6000 + "x", "9" * 6000 + ".", "9" * 70 + " " + "9" * 70):
            with self.assertRaises(InvalidText) as seen:
                read_ratio(text)
            self.assertTrue(seen.exception.text == text)


class ConventionsTest(unittest.TestCase):

    def test_lists_are_no_numbers_and_stay_as_they_are(self):
        value = [1, [2, 3]]
        self.assertIs(is_ratio(value), False)
        self.assertIs(is_number(value), False)
        with self.assertRaises(InvalidNumber):
            as_ratio(value)
        self.assertEqual(value, [1, [2, 3]])

    def test_equal_calls_return_equal_values(self):
        for function in (add, subtract, multiply, divide, compare):
            self.assertEqual(function((1, 2), -3), function((1, 2), (-3, 1)))
            self.assertEqual(function((1, 2), -3), function((1, 2), -3))

    def test_constants_are_ratios(self):
        self.assertTrue(is_ratio(ratios.ZERO) and is_ratio(ratios.ONE))


if __name__ == "__main__":
    unittest.main()
