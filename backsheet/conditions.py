"""Conditions: what formulas, wishes, held cells and limits ask of a table."""

from backsheet.errors import (
    DuplicateCell, EmptyLimit, InvalidLimit, InvalidWeights, InvalidWish, UnknownCondition,
)
from backsheet.forms import add_forms, cell_form, constant_form, scale_form, subtract_forms, value_at
from backsheet.ratios import ZERO, as_ratio, compare, is_number, is_ratio
from backsheet.sheets import is_table

# The words of the conditions whose left side may also be above 0.
BOUND_WORDS = ("high", "low")


def conditions_of(sheet, *, wishes=(), held=(), limits=()):
    """Return all conditions that such lists give, in ascending order."""
    return tuple([condition for condition, _ in checked_sides(sheet, wishes, held, limits)])


def left_side(sheet, condition, *, wishes=(), held=(), limits=()):
    """Return the left side of a condition that such lists give."""
    for each, side in checked_sides(sheet, wishes, held, limits):
        if each == condition:
            return side
    raise UnknownCondition(condition)


def keeps(sheet, table, *, wishes=(), held=(), limits=()):
    """Return whether any value is a table that keeps all conditions."""
    return keeps_sides(sheet, checked_sides(sheet, wishes, held, limits), table)


def weighted_sum(sheet, weights, *, wishes=(), held=(), limits=()):
    """Return the sum of the left sides, each multiplied by its weight."""
    sides = checked_sides(sheet, wishes, held, limits)
    if not is_weights(sides, weights):
        raise InvalidWeights()
    return sum_of_sides(sides, weights)


def is_refusal(sheet, weights, *, wishes=(), held=(), limits=()):
    """Return whether any value is weights that show that no table keeps all conditions."""
    sides = checked_sides(sheet, wishes, held, limits)
    if not is_weights(sides, weights):
        return False
    terms, constant = sum_of_sides(sides, weights)
    return terms == () and compare(constant, 0) < 0


def checked_sides(sheet, wishes, held, limits):
    """Return the conditions that such lists give, ascending, each with its left side."""
    sides = {}
    for name, number in checked_wishes(sheet, wishes):
        sides[("wish", name)] = above_form(name, number)
    for name in checked_names(sheet, held):
        sides[("held", name)] = above_form(name, sheet.value_of(name))
    for name, low, high in checked_limits(sheet, limits):
        if low is not None:
            sides[("low", name)] = above_form(name, low)
        if high is not None:
            sides[("high", name)] = scale_form(-1, above_form(name, high))
    for name in sheet.computed_names():
        sides[("formula", name)] = subtract_forms(cell_form(name), sheet.form_of(name))
    return tuple([(condition, sides[condition]) for condition in sorted(sides)])


def above_form(name, number):
    """Return the form of a cell minus a number."""
    return subtract_forms(cell_form(name), constant_form(number))


def checked_wishes(sheet, wishes):
    """Return wishes with numbers as ratios."""
    checked = {}
    for index, wish in enumerate(wishes):
        if not is_wish(wish):
            raise InvalidWish(index)
        name, number = wish
        check_new_name(sheet, name, checked)
        checked[name] = (name, as_ratio(number))
    return tuple(checked.values())


def is_wish(value):
    """Return whether any value has the form of a wish."""
    if not isinstance(value, tuple) or len(value) != 2:
        return False
    name, number = value
    return isinstance(name, str) and is_number(number)


def check_new_name(sheet, name, checked):
    """Raise an error if a name is no cell, or that of an earlier item."""
    sheet.check_name(name)
    if name in checked:
        raise DuplicateCell(name)


def checked_names(sheet, names):
    """Return names of cells, each once, in ascending order."""
    for name in names:
        sheet.check_name(name)
    return tuple(sorted(set(names)))


def checked_limits(sheet, limits):
    """Return limits with numbers as ratios."""
    checked = {}
    for index, limit in enumerate(limits):
        if not is_limit(limit):
            raise InvalidLimit(index)
        name, low, high = limit
        check_new_name(sheet, name, checked)
        if low is not None and high is not None and compare(low, high) > 0:
            raise EmptyLimit(name)
        checked[name] = (name, bound_ratio(low), bound_ratio(high))
    return tuple(checked.values())


def is_limit(value):
    """Return whether any value has the form of a limit."""
    if not isinstance(value, tuple) or len(value) != 3:
        return False
    name, low, high = value
    return isinstance(name, str) and is_bound_number(low) and is_bound_number(high)


def is_bound_number(value):
    """Return whether any value may stand for a bound: a number, or None for no bound."""
    return value is None or is_number(value)


def bound_ratio(bound):
    """Return the ratio of a bound, if there is one."""
    return None if bound is None else as_ratio(bound)


def keeps_sides(sheet, sides, value):
    """Return whether any value is a table that keeps all of the given conditions."""
    if not is_table(sheet, value):
        return False
    return all([is_kept(condition, value_at(side, value)) for condition, side in sides])


def is_kept(condition, worth):
    """Return whether a condition is kept where its left side has a value."""
    word, _ = condition
    if word in BOUND_WORDS:
        return compare(worth, 0) >= 0
    return worth == ZERO


def is_weights(sides, value):
    """Return whether any value is weights of the given conditions."""
    if not isinstance(value, (tuple, list)):
        return False
    if not all([is_weight(sides, part) for part in value]):
        return False
    conditions = [condition for condition, _ in value]
    return conditions == sorted(set(conditions))


def is_weight(sides, value):
    """Return whether any value is a pair of a given condition and a ratio that it can have."""
    if not isinstance(value, tuple) or len(value) != 2:
        return False
    condition, factor = value
    # What is passed may be no key of a dict, so the conditions are compared one by one.
    if condition not in [each for each, _ in sides] or not is_ratio(factor) or factor == ZERO:
        return False
    word, _ = condition
    return word not in BOUND_WORDS or compare(factor, 0) > 0


def sum_of_sides(sides, weights):
    """Return the sum of left sides, each multiplied by its weight."""
    known = dict(sides)
    total = constant_form(ZERO)
    for condition, factor in weights:
        total = add_forms(total, scale_form(factor, known[condition]))
    return total
