"""Sheets: cells with numbers and cells with formulas."""

from backsheet.errors import (
    BadFormula, CellInUse, CircularCell, DuplicateCell, FormulaSyntax, InvalidName, InvalidNumber, InvalidRow,
    InvalidTable, NotInput, NotLinear, UnknownCell, ZeroDivisor,
)
from backsheet.forms import add_forms, cell_form, constant_form, is_name, names_in, scale_form, value_at
from backsheet.formulas import parse_formula
from backsheet.ratios import as_ratio, compare, is_number


class Sheet:
    """A sheet of cells. It never changes."""

    def __init__(self, rows=()):
        self._rows, self._forms = read_rows(rows)
        formulas = {name: self._forms[name] for name in self.computed_names()}
        check_unknown(self._forms)
        check_circles(formulas)
        self._by_inputs = forms_by_inputs(self._forms, formulas)
        numbers = [(name, content) for name, kind, content in self._rows if kind == "input"]
        self._table = filled_table(self, numbers)

    def __len__(self):
        return len(self._rows)

    def __eq__(self, other):
        return isinstance(other, Sheet) and self._rows == other._rows

    def rows(self):
        """Return the rows, with numbers as ratios."""
        return self._rows

    def cell_names(self):
        """Return the names of all cells in the order of the rows."""
        return tuple([name for name, _, _ in self._rows])

    def input_names(self):
        """Return the names of the inputs in the order of the rows."""
        return tuple([name for name, kind, _ in self._rows if kind == "input"])

    def computed_names(self):
        """Return the names of the computed cells in the order of the rows."""
        return tuple([name for name, kind, _ in self._rows if kind == "formula"])

    def form_of(self, name):
        """Return the form of a computed cell's formula, or the form of an input."""
        self.check_name(name)
        return self._forms[name]

    def form_by_inputs(self, name):
        """Return the form of a cell that names inputs alone."""
        self.check_name(name)
        return self._by_inputs[name]

    def drivers_of(self, name):
        """Return the inputs on which a cell depends, in ascending order."""
        return names_in(self.form_by_inputs(name))

    def ordered_names(self):
        """Return the names of all cells, each one behind those that its form names."""
        return tuple(self._by_inputs)

    def users_of(self, name):
        """Return the computed cells whose forms name a cell."""
        self.check_name(name)
        return tuple([user for user in self.computed_names() if name in names_in(self._forms[user])])

    def own_table(self):
        """Return the table with the numbers of the inputs' rows."""
        return self._table

    def value_of(self, name):
        """Return the value of a cell in the own table."""
        self.check_name(name)
        return dict(self._table)[name]

    def with_input(self, name, number):
        """Return the sheet with another number in an input."""
        self.check_name(name)
        if name not in self.input_names():
            raise NotInput(name)
        if not is_number(number):
            raise InvalidNumber(number)
        return self.with_row((name, "input", number))

    def with_table(self, table):
        """Return the sheet whose own table is another one of its tables."""
        if not is_table(self, table):
            raise InvalidTable(table)
        numbers = dict(table)
        return Sheet([(name, kind, numbers[name] if kind == "input" else content)
                      for name, kind, content in self._rows])

    def with_row(self, row):
        """Return the sheet with a row in the place of the same cell's row, or at the end."""
        place = len(self._rows)
        if isinstance(row, tuple) and len(row) > 0 and row[0] in self.cell_names():
            place = self.cell_names().index(row[0])
        return Sheet((*self._rows[:place], row, *self._rows[place + 1:]))

    def without_cell(self, name):
        """Return the sheet without a cell."""
        users = self.users_of(name)
        if users != ():
            raise CellInUse(name, users[0])
        return Sheet([row for row in self._rows if row[0] != name])

    def check_name(self, name):
        """Raise an error if there is no such cell."""
        if name not in self._forms:
            raise UnknownCell(name)


def read_rows(rows):
    """Return rows with numbers as ratios, and the forms of their cells."""
    good = []
    forms = {}
    for index, row in enumerate(rows):
        if not is_row(row):
            raise InvalidRow(index)
        name, kind, content = row
        if not is_name(name):
            raise InvalidName(name)
        if name in forms:
            raise DuplicateCell(name)
        if kind == "input":
            forms[name] = cell_form(name)
            good.append((name, kind, as_ratio(content)))
        else:
            forms[name] = formula_form(name, content)
            good.append(row)
    return tuple(good), forms


def is_row(value):
    """Return whether any value has the form of a row."""
    if not isinstance(value, tuple) or len(value) != 3:
        return False
    name, kind, content = value
    if kind == "input":
        return isinstance(name, str) and is_number(content)
    return isinstance(name, str) and kind == "formula" and isinstance(content, str)


def formula_form(name, text):
    """Return the form of a cell's formula."""
    try:
        return parse_formula(text)
    except FormulaSyntax as fault:
        raise BadFormula(name, "syntax", fault.position) from None
    except NotLinear as failure:
        raise BadFormula(name, "linear", failure.position) from None
    except ZeroDivisor as division:
        raise BadFormula(name, "zero", division.position) from None


def check_unknown(forms):
    """Raise an error if a form names a cell that is not there."""
    for name in forms:
        for driver in names_in(forms[name]):
            if driver not in forms:
                raise UnknownCell(driver)


def check_circles(formulas):
    """Raise an error if a computed cell's form leads back to it."""
    for name in formulas:
        if name in reached_names(formulas, name):
            raise CircularCell(name)


def reached_names(formulas, name):
    """Return the names to which the form of a computed cell leads."""
    reached = {}
    waiting = [name]
    while waiting != []:
        drivers = names_in(formulas[waiting.pop()])
        waiting.extend([driver for driver in drivers if driver in formulas and driver not in reached])
        reached.update({driver: True for driver in drivers})
    return list(reached)


def forms_by_inputs(forms, formulas):
    """Return the forms of all cells that name inputs alone."""
    found = {name: forms[name] for name in forms if name not in formulas}
    while len(found) < len(forms):
        for name in formulas:
            if name not in found and all([driver in found for driver in names_in(forms[name])]):
                found[name] = replaced_form(forms[name], found)
    return found


def replaced_form(form, found):
    """Return a form with other forms in the place of all its cells."""
    terms, constant = form
    total = constant_form(constant)
    for name, factor in terms:
        total = add_forms(total, scale_form(factor, found[name]))
    return total


def filled_table(sheet, numbers):
    """Return the table of a sheet in which the inputs have the given numbers."""
    return tuple([(name, value_at(sheet.form_by_inputs(name), numbers)) for name in sheet.cell_names()])


def is_table(sheet, value):
    """Return whether any value is a table of a sheet."""
    names = sheet.cell_names()
    if not isinstance(value, (tuple, list)) or len(value) != len(names):
        return False
    if not all([is_entry(name, entry) for name, entry in zip(names, value)]):
        return False
    numbers = dict(value)
    return all([compare(numbers[name], value_at(sheet.form_of(name), value)) == 0
                for name in sheet.computed_names()])


def is_entry(name, value):
    """Return whether any value is a pair of a given name and a number."""
    return isinstance(value, tuple) and len(value) == 2 and value[0] == name and is_number(value[1])
