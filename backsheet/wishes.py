"""Several wishes: which of them can be kept together."""

from itertools import combinations

from backsheet.conditions import checked_sides
from backsheet.extremes import table_of


def largest_wishes(sheet, wishes, *, held=(), limits=()):
    """Return all possible sets of wishes to which no other wish can be added."""
    possible, _ = explored_sets(sheet, checked_sides(sheet, wishes, held, limits))
    return tuple(possible)


def smallest_clashes(sheet, wishes, *, held=(), limits=()):
    """Return all smallest sets of wishes that are not possible, each one with a refusal."""
    _, refusals = explored_sets(sheet, checked_sides(sheet, wishes, held, limits))
    smallest = [names for names in refusals if not is_beyond(names, [each for each in refusals if each != names])]
    ordered = sorted([(len(names), names) for names in smallest])
    return tuple([(names, refusals[names]) for _, names in ordered])


def wishes_in_order(sheet, wishes, *, held=(), limits=()):
    """Say of each wish whether it is possible together with those kept before it."""
    sides = checked_sides(sheet, wishes, held, limits)
    kept = []
    entries = []
    for name, _ in wishes:
        word, found = table_of(sheet, sides_of_wishes(sides, [*kept, name]))
        if word == "table":
            kept.append(name)
            entries.append(("kept", name))
        else:
            entries.append(("refused", name, found))
    return tuple(entries)


def explored_sets(sheet, sides):
    """Return the largest possible sets of wishes, in their order, and refusals by the sets that they name.

    Each set that is not possible contains one of the refused sets. So each
    smallest one of them is a refused set itself.
    """
    possible = []
    refusals = {}
    for names in larger_sets(wished_names(sides)):
        # What is part of a possible set, or contains a refused one, needs no further look.
        if not any([is_part(names, each) for each in possible]) and not is_beyond(names, list(refusals)):
            word, found = table_of(sheet, sides_of_wishes(sides, names))
            if word == "table":
                possible.append(names)
            else:
                refusals[wished_names(found)] = found
    return possible, refusals


def larger_sets(names):
    """Return all sets of names, larger sets first, in ascending order."""
    return [chosen for size in range(len(names), -1, -1) for chosen in combinations(names, size)]


def is_beyond(names, sets):
    """Return whether a set of names contains one of some sets."""
    return any([is_part(each, names) for each in sets])


def is_part(names, others):
    """Return whether all names of a set are also in another one."""
    return all([name in others for name in names])


def wished_names(parts):
    """Return the names of the wishes among conditions with their left sides, or with their weights."""
    return tuple([name for (word, name), _ in parts if word == "wish"])


def sides_of_wishes(sides, names):
    """Return conditions with their left sides, of the wishes those for the cells among names alone."""
    return tuple([(condition, side) for condition, side in sides if condition[0] != "wish" or condition[1] in names])
