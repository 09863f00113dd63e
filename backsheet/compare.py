"""Comparing and joining sheets."""

from backsheet.bases import based_on, input_based
from backsheet.errors import InvalidForm, UnlikeCells
from backsheet.extremes import formula_weights
from backsheet.forms import (
    add_forms, cell_form, constant_form, factor_in, form_text, is_form, names_in, scale_form, subtract_forms, value_at,
)
from backsheet.ratios import ONE, ZERO, add, compare, divide, is_ratio, is_whole
from backsheet.roles import based_row
from backsheet.sheets import Sheet, replaced_form


def follows(sheet, form):
    """Return the weights of formulas that show that a form is always 0, or a table in which it is not."""
    if not is_form(form):
        raise InvalidForm(form)
    for name in names_in(form):
        sheet.check_name(name)
    table = parting_table(sheet, form)
    if table is not None:
        return ("table", table)
    return ("weights", formula_weights(sheet, form))


def parting_table(sheet, form):
    """Return a table in which a form is not 0, or None if there is none."""
    terms, _ = replaced_form(form, input_based(sheet))
    if value_at(form, sheet.own_table()) != ZERO:
        return sheet.own_table()
    if terms == ():
        return None
    # Where a form is 0, another number in one of its inputs makes something else of it.
    name, _ = terms[0]
    return sheet.with_input(name, add(sheet.value_of(name), ONE)).own_table()


def same_tables(one, other):
    """Compare the tables of two sheets with the same cells."""
    unlike = sorted(set(one.cell_names()) ^ set(other.cell_names()))
    if unlike != []:
        raise UnlikeCells(unlike[0])
    for which, sheet, formulas in ((0, one, other), (1, other, one)):
        for name in formulas.computed_names():
            table = parting_table(sheet, subtract_forms(cell_form(name), formulas.form_of(name)))
            if table is not None:
                return ("parted", which, table)
    return ("same",)


def joined(one, other):
    """Return the sheet whose tables are the common tables of two sheets, or a refusal."""
    forms = joint_forms(one, other)
    lines = []
    for name in other.computed_names():
        if name in one.cell_names():
            form, source = cleared_line(joint_line(other, forms, name), lines)
            if names_in(form) != ():
                lines.append((form, source))
            elif form != constant_form(ZERO):
                return ("refused", join_weights(one, other, form, source))
    cleared = {name: cleared_line((forms[name], constant_form(ZERO)), lines)[0] for name in forms}
    return ("done", joint_sheet(one, other, cleared))


def joint_forms(one, other):
    """Return forms of the cells of both sheets: in the tables of one, and with any numbers for other's own inputs."""
    forms = input_based(one)
    for name in other.input_names():
        if name not in forms:
            forms[name] = cell_form(name)
    for name in other.computed_names():
        if name not in forms:
            forms[name] = replaced_form(other.form_by_inputs(name), forms)
    return forms


def joint_line(other, forms, name):
    """Return a form that is 0 in the joint tables, where the other sheet computes a cell that has a form already.

    Behind it stands the form of which it is made, which is 0 in all tables of the other sheet.
    """
    told = other.form_by_inputs(name)
    return subtract_forms(forms[name], replaced_form(told, forms)), subtract_forms(cell_form(name), told)


def cleared_line(line, lines):
    """Return a line minus multiples of earlier ones, so that it does not name the first cell of any of these."""
    form, source = line
    for earlier, earlier_source in lines:
        first = names_in(earlier)[0]
        share = divide(factor_in(form, first), factor_in(earlier, first))
        form = subtract_forms(form, scale_form(share, earlier))
        source = subtract_forms(source, scale_form(share, earlier_source))
    return form, source


def join_weights(one, other, form, source):
    """Return the refusal that a line tells, in which all cells cancelled but the constant did not."""
    sign = 1 if compare(value_at(form, ()), 0) < 0 else -1
    # In all tables of the other sheet the source is 0, and in those of the one it is the constant.
    weights = (
        (0, formula_weights(one, scale_form(sign, subtract_forms(form, source)))),
        (1, formula_weights(other, scale_form(sign, source))),
    )
    return tuple([((which, name), factor) for which, parts in weights for (_, name), factor in parts])


def joint_sheet(one, other, forms):
    """Return the joined sheet, where the cells of both are told by forms."""
    names = [*one.cell_names(), *[name for name in other.cell_names() if name not in one.cell_names()]]
    groups = (one.input_names(), other.input_names(), names)
    based, taken = based_on(forms, [name for group in groups for name in names if name in group])
    # The numbers of the one sheet take the places of the other's.
    numbers = dict([*other.own_table(), *one.own_table()])
    return Sheet([based_row(based, taken, name, numbers[name]) for name in names])


def is_join_refusal(one, other, weights):
    """Return whether any value is weights that show that two sheets have no common tables."""
    sheets = (one, other)
    if not isinstance(weights, (tuple, list)) or not all([is_join_weight(sheets, part) for part in weights]):
        return False
    keys = [key for key, _ in weights]
    if keys != sorted(set(keys)):
        return False
    total = constant_form(ZERO)
    for (which, name), factor in weights:
        side = subtract_forms(cell_form(name), sheets[which].form_of(name))
        total = add_forms(total, scale_form(factor, side))
    terms, constant = total
    return terms == () and compare(constant, 0) < 0


def is_join_weight(sheets, value):
    """Return whether any value is a pair of a computed cell of one of two sheets and a ratio other than zero."""
    if not isinstance(value, tuple) or len(value) != 2:
        return False
    key, factor = value
    if not isinstance(key, tuple) or len(key) != 2 or not is_ratio(factor) or factor == ZERO:
        return False
    which, name = key
    return is_whole(which) and which in (0, 1) and name in sheets[which].computed_names()
