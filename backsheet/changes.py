"""Changes: inputs that meet wishes."""

from itertools import combinations

from backsheet.conditions import above_form, checked_names, checked_sides
from backsheet.errors import NotInput
from backsheet.extremes import table_of
from backsheet.ranges import nearest_in
from backsheet.sheets import is_table


def attempt(sheet, wishes, inputs, *, held=(), limits=()):
    """Return a table that keeps all conditions where no other inputs change, or a refusal."""
    for name in inputs:
        sheet.check_name(name)
        if name not in sheet.input_names():
            raise NotInput(name)
    others = [name for name in sheet.input_names() if name not in inputs]
    return table_of(sheet, checked_sides(sheet, wishes, (*held, *others), limits))


def solve(sheet, wishes, *, held=(), limits=()):
    """Return the sheet with the fewest and the least changes that keep all conditions, or a refusal."""
    sides = checked_sides(sheet, wishes, held, limits)
    answer = table_of(sheet, sides)
    if answer[0] == "refused":
        return answer
    kept = checked_names(sheet, held)
    free = [name for name in sorted(sheet.input_names()) if name not in kept]
    names = first_enough(sheet, sides, free)
    return ("done", sheet.with_table(nearest_table(sheet, sides, free, names)))


def first_enough(sheet, sides, free):
    """Return the first smallest set of inputs that is enough, where all free ones together are."""
    refusing = []
    for names in smaller_sets(free):
        # What refused another set refuses this one, too, if it holds none of these inputs.
        if all([meets(names, others) for others in refusing]):
            word, found = table_of(sheet, sides_with_held(sheet, sides, free, names))
            if word == "table":
                return names
            refusing.append([name for name in free if ("held", name) in dict(found)])
    return tuple(free)


def smaller_sets(names):
    """Return all sets of names but that of all of them, smaller sets first, in ascending order."""
    return [chosen for size in range(len(names)) for chosen in combinations(names, size)]


def meets(names, others):
    """Return whether some names are also among others."""
    return any([name in others for name in names])


def sides_with_held(sheet, sides, free, names):
    """Return conditions with their left sides, where those of the free inputs are held that are not among names."""
    more = [(("held", name), above_form(name, sheet.value_of(name))) for name in free if name not in names]
    return (*sides, *more)


def nearest_table(sheet, sides, free, names):
    """Return the table in which the inputs among names go, one after the other, only as far as they must."""
    fixed = dict(sides_with_held(sheet, sides, free, names))
    for name in names:
        number = nearest_in(sheet, tuple(fixed.items()), name, sheet.value_of(name))
        fixed[("wish", name)] = above_form(name, number)
    _, table = table_of(sheet, tuple(fixed.items()))
    return table


def is_solution(sheet, wishes, value, *, held=(), limits=()):
    """Return whether any value is the table to which solve leads."""
    word, found = solve(sheet, wishes, held=held, limits=limits)
    return word == "done" and is_table(sheet, value) and sheet.with_table(value) == found
