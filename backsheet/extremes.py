"""Extremes: tables that keep given conditions, and how small a form can get in them.

The conditions are passed as pairs of a condition and its left side.
"""

from backsheet.conditions import checked_sides, sum_of_sides
from backsheet.forms import add_forms, constant_form, factor_in, names_in, scale_form, subtract_forms, value_at
from backsheet.moves import move_by_inputs
from backsheet.ratios import ZERO, add, multiply
from backsheet.sheets import filled_table, replaced_form
from backsheet.systems import GOAL, System


def table_of(sheet, sides):
    """Return ("table", table), or ("refused", weights) if no table keeps the conditions."""
    system = System(sheet.input_names(), forms_of_sides(sheet, sides))
    refused = refused_answer(sheet, sides, system)
    if refused is not None:
        return refused
    return ("table", present_table(sheet, system))


def least_of(sheet, sides, form):
    """Tell how small a form can get.

    Returns ("refused", weights), or ("bound", ratio, table, weights) with weights
    whose sum is the form minus the ratio, or ("endless", table, move) with a move
    that lowers the form.
    """
    forms = forms_of_sides(sheet, sides)
    forms[GOAL] = form_by_changes(sheet, form)
    system = System(sheet.input_names(), forms)
    refused = refused_answer(sheet, sides, system)
    if refused is not None:
        return refused
    column = system.descend()
    table = present_table(sheet, system)
    if column is not None:
        return ("endless", table, move_by_inputs(sheet, system.fall(column)))
    weights = full_weights(sheet, sides, system.line_weights(GOAL), form)
    return ("bound", system.goal(), table, weights)


def forms_of_sides(sheet, sides):
    """Return the left sides, but for those of formulas, as forms of the changes of the inputs."""
    return {condition: form_by_changes(sheet, side) for condition, side in sides if condition[0] != "formula"}


def form_by_changes(sheet, form):
    """Return a form of the changes of the inputs, seen from the own table."""
    found = {name: sheet.form_by_inputs(name) for name in names_in(form)}
    terms, _ = replaced_form(form, found)
    return (terms, value_at(form, sheet.own_table()))


def refused_answer(sheet, sides, system):
    """Solve a system; return None, or ("refused", weights) if it has no solution."""
    contradiction = system.solve()
    if contradiction is None:
        return None
    return ("refused", full_weights(sheet, sides, system.refusal(contradiction), constant_form(ZERO)))


def present_table(sheet, system):
    """Return the table with the present changes of a system."""
    numbers = [(name, add(sheet.value_of(name), change)) for name, change in system.changes()]
    return filled_table(sheet, numbers)


def formula_weights(sheet, form):
    """Return the weights of formulas whose sum is a form that is 0 in every table."""
    return full_weights(sheet, checked_sides(sheet, (), (), ()), {}, form)


def full_weights(sheet, sides, weights, form):
    """Return weights with those of the formulas that leave no cells in the sum but those of a form."""
    full = {condition: weights[condition] for condition in weights}
    known = dict(sides)
    rest = subtract_forms(sum_of_sides(sides, list(weights.items())), form)
    # Each cell comes ahead of those that its form names, so that none comes back.
    for name in reversed(sheet.ordered_names()):
        factor = factor_in(rest, name)
        # Of the inputs none is left when their turn comes.
        if factor != ZERO:
            condition = ("formula", name)
            full[condition] = multiply(-1, factor)
            rest = add_forms(rest, scale_form(full[condition], known[condition]))
    return tuple([(condition, full[condition]) for condition in sorted(full)])
