"""Roles: which cells can be the inputs."""

from backsheet.bases import based_on, input_based, move_along, solved_form
from backsheet.conditions import checked_names
from backsheet.errors import NotComputed, NotInput
from backsheet.forms import cell_form, form_text, names_in, subtract_forms
from backsheet.sheets import Sheet


def determined(sheet, names, name):
    """Return the form of a cell by other cells, or a move that keeps these and changes the cell."""
    given = checked_names(sheet, names)
    sheet.check_name(name)
    forms, taken = based_on(input_based(sheet), given)
    others = [each for each in names_in(forms[name]) if each not in taken]
    if others == []:
        return ("form", forms[name])
    return ("move", move_along(forms, others[0]))


def independent(sheet, names):
    """Return moves that change each of some cells alone, or a form of these cells that is always 0."""
    given = checked_names(sheet, names)
    forms, taken = based_on(input_based(sheet), given)
    if len(taken) < len(given):
        return ("tie", tie_form(forms, given, taken))
    return ("free", tuple([move_along(forms, name) for name in given]))


def tie_form(forms, given, taken):
    """Return a form that is always 0: the first given cell that was not taken, minus its form."""
    name = [each for each in given if each not in taken][0]
    return subtract_forms(cell_form(name), forms[name])


def exchange(sheet, name, computed):
    """Let an input and a computed cell change roles, or return the move that shows that they cannot."""
    sheet.check_name(name)
    sheet.check_name(computed)
    if name not in sheet.input_names():
        raise NotInput(name)
    if computed not in sheet.computed_names():
        raise NotComputed(computed)
    if name not in sheet.drivers_of(computed):
        return ("kept", move_along(input_based(sheet), name))
    form = solved_form(sheet.form_by_inputs(computed), computed, name)
    changed = sheet.with_row((computed, "input", sheet.value_of(computed)))
    return ("done", changed.with_row((name, "formula", form_text(form))))


def rebased(sheet, names):
    """Return the sheet with other inputs, or a tie or a move that shows that they cannot be its inputs."""
    given = checked_names(sheet, names)
    forms, taken = based_on(input_based(sheet), given)
    if len(taken) < len(given):
        return ("tie", tie_form(forms, given, taken))
    others = [name for name in forms if forms[name] == cell_form(name) and name not in taken]
    if len(taken) < len(sheet.input_names()):
        return ("move", move_along(forms, others[0]))
    return ("done", Sheet([based_row(forms, taken, name, sheet.value_of(name)) for name in sheet.cell_names()]))


def based_row(forms, taken, name, number):
    """Return the row of a cell by the cells that were taken as inputs, where an input has a given number."""
    if name in taken:
        return (name, "input", number)
    return (name, "formula", form_text(forms[name]))
