"""Ranges: how far a cell can go."""

from backsheet.conditions import (
    BOUND_WORDS, above_form, checked_sides, is_kept, is_weights, keeps_sides, sum_of_sides,
)
from backsheet.errors import InvalidNumber, UnknownSide
from backsheet.extremes import least_of
from backsheet.forms import cell_form, change_at, scale_form
from backsheet.moves import is_move
from backsheet.ratios import ZERO, as_ratio, compare, is_number, is_ratio, multiply


def least_value(sheet, name, *, wishes=(), held=(), limits=()):
    """Say how small the value of a cell can get."""
    sheet.check_name(name)
    return least_in(sheet, checked_sides(sheet, wishes, held, limits), name)


def greatest_value(sheet, name, *, wishes=(), held=(), limits=()):
    """Say how great the value of a cell can get."""
    sheet.check_name(name)
    return greatest_in(sheet, checked_sides(sheet, wishes, held, limits), name)


def least_in(sheet, sides, name):
    """Say how small the value of a cell can get, where the conditions are given with their left sides."""
    return least_of(sheet, sides, cell_form(name))


def greatest_in(sheet, sides, name):
    """Say how great the value of a cell can get, where the conditions are given with their left sides."""
    answer = least_of(sheet, sides, scale_form(-1, cell_form(name)))
    if answer[0] != "bound":
        return answer
    _, number, table, weights = answer
    return ("bound", multiply(-1, number), table, weights)


def is_bound(sheet, name, side, answer, *, wishes=(), held=(), limits=()):
    """Return whether any value is an answer that shows how far a cell can go."""
    sides = checked_query(sheet, name, side, wishes, held, limits)
    if not isinstance(answer, tuple) or len(answer) != 4 or answer[0] != "bound":
        return False
    _, number, table, weights = answer
    if not is_ratio(number) or not is_returned_table(sheet, sides, table) or dict(table)[name] != number:
        return False
    if not isinstance(weights, tuple) or not is_weights(sides, weights):
        return False
    return sum_of_sides(sides, weights) == scale_form(side_sign(side), above_form(name, number))


def is_endless(sheet, name, side, answer, *, wishes=(), held=(), limits=()):
    """Return whether any value is an answer that shows that a cell can go without end."""
    sides = checked_query(sheet, name, side, wishes, held, limits)
    if not isinstance(answer, tuple) or len(answer) != 3 or answer[0] != "endless":
        return False
    _, table, move = answer
    if not is_returned_table(sheet, sides, table) or not isinstance(move, tuple) or not is_move(sheet, move):
        return False
    changes = dict(move)
    if compare(multiply(side_sign(side), changes.get(name, ZERO)), 0) >= 0:
        return False
    slopes = [(each, changes.get(each, ZERO)) for each in sheet.cell_names()]
    return all([is_kept(condition, change_at(form, slopes)) for condition, form in sides])


def checked_query(sheet, name, side, wishes, held, limits):
    """Return the conditions with their left sides, where a cell, a side and the lists are good."""
    sheet.check_name(name)
    if side not in BOUND_WORDS:
        raise UnknownSide(side)
    return checked_sides(sheet, wishes, held, limits)


def side_sign(side):
    """Return the sign that a cell has in the left side of a bound."""
    return 1 if side == "low" else -1


def is_returned_table(sheet, sides, value):
    """Return whether any value is a table that keeps conditions, in the very form in which tables are returned."""
    if not isinstance(value, tuple) or not keeps_sides(sheet, sides, value):
        return False
    return all([is_ratio(number) for _, number in value])


def value_range(sheet, name, *, wishes=(), held=(), limits=()):
    """Return the least and the greatest value of a cell, each None if there is no end."""
    sheet.check_name(name)
    sides = checked_sides(sheet, wishes, held, limits)
    least = least_in(sheet, sides, name)
    if least[0] == "refused":
        return None
    return (end_of(least), end_of(greatest_in(sheet, sides, name)))


def end_of(answer):
    """Return the end of a range that an answer shows, or None if it is endless."""
    return answer[1] if answer[0] == "bound" else None


def nearest_value(sheet, name, number, *, wishes=(), held=(), limits=()):
    """Return the value of a cell that is nearest to a number, or None if there is no table."""
    sheet.check_name(name)
    if not is_number(number):
        raise InvalidNumber(number)
    return nearest_in(sheet, checked_sides(sheet, wishes, held, limits), name, as_ratio(number))


def nearest_in(sheet, sides, name, number):
    """Return the nearest value of a cell, where the conditions are given with their left sides."""
    least = least_in(sheet, sides, name)
    if least[0] == "refused":
        return None
    if least[0] == "bound" and compare(number, least[1]) <= 0:
        return least[1]
    greatest = greatest_in(sheet, sides, name)
    if greatest[0] == "bound" and compare(number, greatest[1]) >= 0:
        return greatest[1]
    return number
