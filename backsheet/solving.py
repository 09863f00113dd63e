"""Tables that keep all conditions, or refusals."""

from backsheet.conditions import BOUND_WORDS, checked_sides, is_weights, sum_of_sides
from backsheet.errors import UnknownCondition
from backsheet.extremes import least_of, table_of
from backsheet.forms import subtract_forms, value_at
from backsheet.moves import moved_table
from backsheet.ratios import add, compare, divide, subtract


def table_or_refusal(sheet, *, wishes=(), held=(), limits=()):
    """Return a table that keeps all conditions, or a refusal."""
    return table_of(sheet, checked_sides(sheet, wishes, held, limits))


def is_possible(sheet, *, wishes=(), held=(), limits=()):
    """Return whether there is a table that keeps all conditions."""
    word, _ = table_of(sheet, checked_sides(sheet, wishes, held, limits))
    return word == "table"


def limit_needed(sheet, name, side, *, wishes=(), held=(), limits=()):
    """Say whether a bound of a limit follows from the other conditions."""
    sides = checked_sides(sheet, wishes, held, limits)
    bound, others = parted_sides(sides, name, side)
    answer = least_of(sheet, others, bound)
    if answer[0] == "refused":
        return answer
    if answer[0] == "endless":
        _, table, move = answer
        return ("needed", lowered_table(table, move, bound))
    _, least, table, weights = answer
    if compare(least, 0) < 0:
        return ("needed", table)
    return ("spare", weights)


def parted_sides(sides, name, side):
    """Return the left side of a bound, and the other conditions with their left sides."""
    found = [form for condition, form in sides if condition == (side, name) and side in BOUND_WORDS]
    if found == []:
        raise UnknownCondition((side, name))
    return found[0], tuple([each for each in sides if each[0] != (side, name)])


def lowered_table(table, move, form):
    """Return a table in which a form that a move lowers is below 0: a given one, or what the move makes of it."""
    height = value_at(form, table)
    if compare(height, 0) < 0:
        return table
    fall = subtract(height, value_at(form, moved_table(table, move, 1)))
    return moved_table(table, move, add(divide(height, fall), 1))


def is_spare(sheet, name, side, weights, *, wishes=(), held=(), limits=()):
    """Return whether any value is weights that show that a bound follows from the other conditions."""
    sides = checked_sides(sheet, wishes, held, limits)
    bound, others = parted_sides(sides, name, side)
    if not is_weights(others, weights):
        return False
    terms, constant = subtract_forms(bound, sum_of_sides(others, weights))
    return terms == () and compare(constant, 0) >= 0
