"""Reasons: which cells fix others."""

from backsheet.bases import based_on, input_based
from backsheet.conditions import checked_names
from backsheet.forms import factor_in, names_in, value_at
from backsheet.ratios import ONE, ZERO, divide, multiply, subtract
from backsheet.vectors import elementary_vectors, whole_vector


def fixed_cells(sheet, names):
    """Return all cells that are fixed by the given ones."""
    forms, taken = based_on(input_based(sheet), checked_names(sheet, names))
    return tuple([name for name in sheet.cell_names() if is_told(forms[name], taken)])


def is_told(form, taken):
    """Return whether a form names no other cells than those that were taken."""
    return all([name in taken for name in names_in(form)])


def smallest_fixing(sheet, names, name):
    """Return the forms of a cell by each smallest set of the given cells that fixes it."""
    given, forms, taken = checked_query(sheet, names, name)
    if not is_told(forms[name], taken):
        return ()
    # The first place stands for the asked cell, even if it is among the given ones, too.
    vectors = [tie_vector(forms[name], given, 0)]
    vectors.extend([tie_vector(forms[each], given, at + 1) for at, each in enumerate(given) if each not in taken])
    found = [fixing_form(sheet, given, name, vector) for vector in elementary_vectors(vectors, 0)]
    ordered = sorted([(len(names_in(form)), names_in(form), form) for form in found])
    return tuple([form for _, _, form in ordered])


def checked_query(sheet, names, name):
    """Return the given cells, the forms of all cells by as many of them as can be, and these."""
    given = checked_names(sheet, names)
    sheet.check_name(name)
    forms, taken = based_on(input_based(sheet), given)
    return given, forms, taken


def tie_vector(form, given, place):
    """Return how often cells are in what is always 0 but for a constant: the one at a place minus its form."""
    numbers = [ZERO, *[multiply(-1, factor_in(form, name)) for name in given]]
    numbers[place] = ONE
    return whole_vector(numbers)


def fixing_form(sheet, given, name, vector):
    """Return the form of a cell that a vector tells: how often it and the given cells are in what never changes."""
    terms = [(each, divide(-number, vector[0])) for each, number in zip(given, vector[1:]) if number != 0]
    constant = subtract(sheet.value_of(name), value_at((tuple(terms), ZERO), sheet.own_table()))
    return (tuple(terms), constant)


def releases(sheet, names, name):
    """Return the smallest sets of the given cells without which the others do not fix a cell."""
    given, forms, taken = checked_query(sheet, names, name)
    if not is_told(forms[name], taken):
        return ((),)
    # A set has to hold all given cells that a move changes, and the move has to change the cell.
    vectors = [whole_vector([factor_in(forms[each], moving) for each in (name, *given)]) for moving in taken]
    found = [changed_names(given, vector) for vector in elementary_vectors(vectors, 0)]
    ordered = sorted([(len(changed), changed) for changed in found])
    return tuple([changed for _, changed in ordered])


def changed_names(given, vector):
    """Return the given cells that a move changes, told as a vector behind the change of another cell."""
    return tuple([name for name, number in zip(given, vector[1:]) if number != 0])
