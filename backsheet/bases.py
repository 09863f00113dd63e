"""Bases: cells by whose values those of all cells are told.

Such tellings are dicts of forms: for each cell the form that has its value in
every table, and names cells of the basis alone. A cell of the basis has itself
as its form.
"""

from backsheet.forms import cell_form, factor_in, names_in, scale_form, substituted, subtract_forms
from backsheet.moves import move_of
from backsheet.ratios import divide


def input_based(sheet):
    """Return the forms of all cells of a sheet by its inputs."""
    return {name: sheet.form_by_inputs(name) for name in sheet.cell_names()}


def based_on(forms, names):
    """Take cells into the basis, one after the other, that are not told by those taken ahead of them.

    Returns the forms by the new basis, and the names that were taken.
    """
    taken = []
    for name in names:
        others = [each for each in names_in(forms[name]) if each not in taken]
        if others != []:
            forms = exchanged_forms(forms, name, others[0])
            taken.append(name)
    return forms, taken


def exchanged_forms(forms, entering, leaving):
    """Return the forms by the basis that one cell enters in the place of another one, which its form names."""
    form = solved_form(forms[entering], entering, leaving)
    return {name: substituted(forms[name], leaving, form) for name in forms}


def solved_form(form, name, leaving):
    """Return the form of a cell that the form of another cell names, by this other cell."""
    # The form minus its own cell is always 0, so any part of it can be taken away.
    share = divide(1, factor_in(form, leaving))
    return subtract_forms(cell_form(leaving), scale_form(share, subtract_forms(form, cell_form(name))))


def move_along(forms, name):
    """Return the move that changes a cell of the basis by 1 and keeps the others."""
    return move_of([(each, factor_in(forms[each], name)) for each in forms])
