"""Forms: sums of numbers times cells, and a constant."""

from backsheet.errors import UnknownCell
from backsheet.ratios import ONE, ZERO, add_ratios, as_ratio, is_ratio, multiply_ratios, ratio_text

NAME_LETTERS = 8
FUNCTION_WORDS = ("sum", "average")


def is_name(value):
    """Return whether any value is a name that a cell can have."""
    if not isinstance(value, str) or len(value) > NAME_LETTERS or value in FUNCTION_WORDS:
        return False
    # Python counts characters of other scripts as letters, too.
    return value.isascii() and value.isalpha() and value.islower()


def is_form(value):
    """Return whether any value is a form."""
    if not isinstance(value, tuple) or len(value) != 2:
        return False
    terms, constant = value
    if not isinstance(terms, tuple) or not is_ratio(constant):
        return False
    if not all([is_term(term) for term in terms]):
        return False
    names = [name for name, _ in terms]
    return names == sorted(set(names))


def is_term(value):
    """Return whether any value is a pair of a name and a ratio other than zero."""
    if not isinstance(value, tuple) or len(value) != 2:
        return False
    name, factor = value
    return is_name(name) and is_ratio(factor) and factor != ZERO


def constant_form(number):
    """Return the form of a number."""
    return ((), as_ratio(number))


def cell_form(name):
    """Return the form of a cell."""
    return (((name, ONE),), ZERO)


def names_in(form):
    """Return the names of a form in ascending order."""
    return tuple([name for name, _ in form[0]])


def factor_in(form, name):
    """Return how often a form has a cell in it."""
    return dict(form[0]).get(name, ZERO)


def add_forms(one, other):
    """Return the form of the sum of two forms."""
    one_terms, one_constant = one
    other_terms, other_constant = other
    factors = dict(one_terms)
    for name, factor in other_terms:
        factors[name] = add_ratios(factors.get(name, ZERO), factor)
    terms = [(name, factors[name]) for name in sorted(factors) if factors[name] != ZERO]
    return (tuple(terms), add_ratios(one_constant, other_constant))


def subtract_forms(one, other):
    """Return the form of the first form minus the second one."""
    return add_forms(one, scale_form(-1, other))


def scale_form(number, form):
    """Return the form of a number times a form."""
    scale = as_ratio(number)
    if scale == ZERO:
        return constant_form(ZERO)
    terms, constant = form
    scaled = [(name, multiply_ratios(scale, factor)) for name, factor in terms]
    return (tuple(scaled), multiply_ratios(scale, constant))


def substituted(form, name, other):
    """Return a form with another form once in the place of a cell."""
    terms, constant = form
    factor = factor_in(form, name)
    rest = tuple([term for term in terms if term[0] != name])
    return add_forms((rest, constant), scale_form(factor, other))


def value_at(form, values):
    """Return the value of a form where the cells have the given values."""
    numbers = dict(values)
    terms, total = form
    for name, factor in terms:
        if name not in numbers:
            raise UnknownCell(name)
        total = add_ratios(total, multiply_ratios(factor, as_ratio(numbers[name])))
    return total


def change_at(form, changes):
    """Return how the value of a form changes where the cells change in the given ways."""
    terms, _ = form
    return value_at((terms, ZERO), changes)


def form_text(form):
    """Write a form as a formula."""
    terms, constant = form
    parts = [signed_part(factor, term_text(factor, name)) for name, factor in terms]
    if constant != ZERO or terms == ():
        parts.append(signed_part(constant, unsigned_text(constant)))
    text = "".join(parts)
    # The first part has nothing ahead of it to be separated from.
    if text.startswith(" - "):
        return "-" + text.removeprefix(" - ")
    return text.removeprefix(" + ")


def signed_part(number, text):
    """Return the text of a part of a formula behind the sign of its number."""
    top, _ = number
    return (" - " if top < 0 else " + ") + text


def term_text(factor, name):
    """Write a term without its sign."""
    unsigned = unsigned_text(factor)
    return name if unsigned == "1" else unsigned + "*" + name


def unsigned_text(number):
    """Write a ratio without its sign."""
    return ratio_text(number).removeprefix("-")
