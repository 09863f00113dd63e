"""Exact numbers: ratios of two integers."""

from math import gcd

from backsheet.errors import InvalidNumber, InvalidText, ZeroBottom

ZERO = (0, 1)
ONE = (1, 1)

# Python's own int and str refuse some thousands of digits, so integers are
# read and written in groups of digits.
GROUP_DIGITS = 64
GROUP_UNIT = 10 ** 64


def is_whole(value):
    """Return whether any value is an integer."""
    # True and False are of the class int, too, but stand for no integers.
    return isinstance(value, int) and not isinstance(value, bool)


def is_ratio(value):
    """Return whether any value is a ratio."""
    if not isinstance(value, tuple) or len(value) != 2:
        return False
    top, bottom = value
    if not is_whole(top) or not is_whole(bottom) or bottom < 1:
        return False
    return gcd(top, bottom) == 1


def is_number(value):
    """Return whether any value is an integer or a ratio."""
    return is_whole(value) or is_ratio(value)


def as_ratio(value):
    """Return the ratio of a number."""
    if is_whole(value):
        return (value, 1)
    if not is_ratio(value):
        raise InvalidNumber(value)
    return value


def ratio(top, bottom=1):
    """Return the ratio of two integers."""
    if bottom == 0:
        raise ZeroBottom()
    common = gcd(top, bottom)
    if bottom < 0:
        common = -common
    return (top // common, bottom // common)


def add(one, other):
    """Return the sum of two numbers."""
    return add_ratios(as_ratio(one), as_ratio(other))


def add_ratios(one, other):
    """Return the sum of two ratios, of which it is known that they are some."""
    one_top, one_bottom = one
    other_top, other_bottom = other
    return ratio(one_top * other_bottom + other_top * one_bottom, one_bottom * other_bottom)


def subtract(one, other):
    """Return the first number minus the second one."""
    return add(one, multiply(-1, other))


def multiply(one, other):
    """Return the product of two numbers."""
    return multiply_ratios(as_ratio(one), as_ratio(other))


def multiply_ratios(one, other):
    """Return the product of two ratios, of which it is known that they are some."""
    one_top, one_bottom = one
    other_top, other_bottom = other
    return ratio(one_top * other_top, one_bottom * other_bottom)


def divide(one, other):
    """Return the first number divided by the second one."""
    one_top, one_bottom = as_ratio(one)
    other_top, other_bottom = as_ratio(other)
    return ratio(one_top * other_bottom, one_bottom * other_top)


def compare(one, other):
    """Return -1, 0 or 1 as the first number is less than, equal to or greater than the second one."""
    top, _ = subtract(one, other)
    if top < 0:
        return -1
    if top > 0:
        return 1
    return 0


def ratio_text(number):
    """Write a number as its top, and its bottom unless this is 1."""
    top, bottom = as_ratio(number)
    if bottom == 1:
        return integer_text(top)
    return integer_text(top) + "/" + integer_text(bottom)


def integer_text(number):
    """Write an integer, however many digits it has."""
    rest = abs(number)
    groups = []
    while rest >= GROUP_UNIT:
        rest, group = divmod(rest, GROUP_UNIT)
        groups.append(str(group).zfill(GROUP_DIGITS))
    groups.append(str(rest))
    groups.reverse()
    sign = "-" if number < 0 else ""
    return sign + "".join(groups)


def read_ratio(text):
    """Read a number that is written with digits, a point or a line, and perhaps a minus."""
    unsigned = text.removeprefix("-")
    mark = "/" if "/" in unsigned else "."
    ahead, found, behind = unsigned.partition(mark)
    if not are_digits(ahead) or (found != "" and not are_digits(behind)):
        raise InvalidText(text)
    if found == "/":
        top, bottom = read_digits(ahead), read_digits(behind)
    else:
        top, bottom = read_digits(ahead + behind), read_digits("1" + "0" * len(behind))
    if bottom == 0:
        raise InvalidText(text)
    return ratio(-top if text.startswith("-") else top, bottom)


def are_digits(text):
    """Return whether a text consists of digits 0 to 9, at least one."""
    # Python counts characters of other scripts as digits, too.
    return text.isascii() and text.isdigit()


def read_digits(digits):
    """Return the integer that digits write, however many there are."""
    first = len(digits) % GROUP_DIGITS
    number = int("0" + digits[:first])
    for at in range(first, len(digits), GROUP_DIGITS):
        number = number * GROUP_UNIT + int(digits[at:at + GROUP_DIGITS])
    return number
