"""The desk: a sheet that is worked on, with held cells, limits, marks and a history."""

from backsheet.changes import solve
from backsheet.conditions import checked_limits, checked_names
from backsheet.errors import (
    AlreadyHeld, DuplicateCell, InvalidName, InvalidOperation, NoLimit, NoMark, NotHeld, NothingToRedo,
    NothingToUndo, Refused, RolesKept,
)
from backsheet.forms import cell_form, form_text, is_name, names_in, substituted
from backsheet.ratios import as_ratio
from backsheet.roles import exchange
from backsheet.sheets import Sheet

# The operations that can be performed anew, each with the kinds of its arguments.
OPERATIONS = {
    "add_input": ("name", "number"), "add_formula": ("name", "text"), "remove": ("name",), "set_values": ("wishes",),
    "define": ("name", "text"), "hold": ("name",), "free": ("name",), "limit": ("name", "bound", "bound"),
    "unlimit": ("name",), "exchange_roles": ("name", "name"), "rename": ("name", "name"),
}


class Desk:
    """A sheet, held cells and limits, which are the state, with marks and a history.

    A state is a tuple of these three, the names and the limits in ascending
    order. It never changes: each step puts another one in its place.
    """

    def __init__(self, sheet):
        self._state = (sheet, (), ())
        self._marks = {}
        # Steps are told with the states before and behind them.
        self._done = []
        self._undone = []

    def __len__(self):
        return len(self._done)

    def __eq__(self, other):
        return isinstance(other, Desk) and self._state == other._state

    def present_sheet(self):
        """Return the present sheet."""
        return self._state[0]

    def present_table(self):
        """Return the own table of the present sheet."""
        return self.present_sheet().own_table()

    def value_of(self, name):
        """Return the present value of a cell."""
        return self.present_sheet().value_of(name)

    def held_cells(self):
        """Return the held cells in ascending order."""
        return self._state[1]

    def present_limits(self):
        """Return the limits in ascending order of the names."""
        return self._state[2]

    def mark_words(self):
        """Return the words of the marks in ascending order."""
        return tuple(sorted(self._marks))

    def copy(self):
        """Return an independent desk with the same state, marks and history."""
        other = Desk(self.present_sheet())
        other._state = self._state
        other._marks = dict(self._marks)
        other._done = list(self._done)
        other._undone = list(self._undone)
        return other

    def add_input(self, name, number):
        """Add an input at the end of the sheet."""
        sheet, held, limits = self._state
        extended = Sheet((*sheet.rows(), (name, "input", number)))
        self.take_step(("add_input", name, as_ratio(number)), (extended, held, limits))

    def add_formula(self, name, text):
        """Add a computed cell at the end of the sheet."""
        sheet, held, limits = self._state
        extended = Sheet((*sheet.rows(), (name, "formula", text)))
        self.take_step(("add_formula", name, text), (extended, held, limits))

    def remove(self, name):
        """Take out a cell with its limit and its hold."""
        sheet, held, limits = self._state
        state = (sheet.without_cell(name), without_name(held, name), without_limit(limits, name))
        self.take_step(("remove", name), state)

    def set_values(self, wishes):
        """Meet wishes; return the inputs that changed."""
        sheet, held, limits = self._state
        changed = solved_sheet(sheet, wishes, held, limits)
        step = ("set_values", tuple([(name, as_ratio(number)) for name, number in wishes]))
        self.take_step(step, (changed, held, limits))
        return changed_inputs(sheet, changed)

    def define(self, name, text):
        """Give a cell another formula, with the least changes that it takes; return the inputs that changed."""
        sheet, held, limits = self._state
        sheet.check_name(name)
        defined = sheet.with_row((name, "formula", text))
        # The held cells keep the values that they had, not those that the new formula gives them.
        changed = solved_sheet(defined, [(each, sheet.value_of(each)) for each in held], (), limits)
        self.take_step(("define", name, text), (changed, held, limits))
        return changed_inputs(defined, changed)

    def hold(self, name):
        """Hold a cell: no other change of the sheet may change its value."""
        sheet, held, limits = self._state
        sheet.check_name(name)
        if name in held:
            raise AlreadyHeld(name)
        self.take_step(("hold", name), (sheet, tuple(sorted([*held, name])), limits))

    def free(self, name):
        """Hold a cell no longer."""
        sheet, held, limits = self._state
        sheet.check_name(name)
        if name not in held:
            raise NotHeld(name)
        self.take_step(("free", name), (sheet, without_name(held, name), limits))

    def limit(self, name, low, high):
        """Give a cell a limit, with the least changes that it takes; return the inputs that changed."""
        sheet, held, limits = self._state
        sheet.check_name(name)
        added = checked_limits(sheet, [(name, low, high)])
        present = tuple(sorted([*without_limit(limits, name), *added]))
        changed = solved_sheet(sheet, (), held, present)
        self.take_step(("limit", *added[0]), (changed, held, present))
        return changed_inputs(sheet, changed)

    def unlimit(self, name):
        """Take out the limit of a cell."""
        sheet, held, limits = self._state
        sheet.check_name(name)
        if name not in [each for each, _, _ in limits]:
            raise NoLimit(name)
        self.take_step(("unlimit", name), (sheet, held, without_limit(limits, name)))

    def exchange_roles(self, name, computed):
        """Let an input and a computed cell change roles."""
        sheet, held, limits = self._state
        word, found = exchange(sheet, name, computed)
        if word == "kept":
            raise RolesKept(found)
        self.take_step(("exchange_roles", name, computed), (found, held, limits))

    def rename(self, name, other):
        """Give a cell another name wherever it is named."""
        sheet, held, limits = self._state
        sheet.check_name(name)
        if not is_name(other):
            raise InvalidName(other)
        if other in sheet.cell_names():
            raise DuplicateCell(other)
        present = [(renamed(each, name, other), low, high) for each, low, high in limits]
        state = (
            renamed_sheet(sheet, name, other), tuple(sorted([renamed(each, name, other) for each in held])),
            tuple(sorted(present)),
        )
        self.take_step(("rename", name, other), state)

    def mark(self, word):
        """Remember the present state under a name."""
        if not is_name(word):
            raise InvalidName(word)
        self._marks[word] = self._state

    def back(self, word):
        """Go back to a marked state."""
        if word not in self._marks:
            raise NoMark(word)
        self.take_step(("back", word), self._marks[word])

    def take_step(self, step, state):
        """Add a step to the history, which leads to a state; what was undone is forgotten."""
        self._done.append((step, self._state, state))
        self._undone = []
        self._state = state

    def undo(self):
        """Restore the state before the last step that is not undone."""
        if self._done == []:
            raise NothingToUndo()
        step, before, behind = self._done.pop()
        self._undone.append((step, before, behind))
        self._state = before

    def redo(self):
        """Restore the state behind the step that was undone last."""
        if self._undone == []:
            raise NothingToRedo()
        step, before, behind = self._undone.pop()
        self._done.append((step, before, behind))
        self._state = behind

    def history(self):
        """Return the steps that are not undone, oldest first."""
        return tuple([step for step, _, _ in self._done])


def solved_sheet(sheet, wishes, held, limits):
    """Return the sheet to which solve leads."""
    word, found = solve(sheet, wishes, held=held, limits=limits)
    if word == "refused":
        raise Refused(found)
    return found


def changed_inputs(before, after):
    """Return the inputs whose numbers differ in two sheets, in ascending order."""
    return tuple([name for name in sorted(after.input_names()) if before.value_of(name) != after.value_of(name)])


def without_name(names, name):
    """Return names without one of them."""
    return tuple([each for each in names if each != name])


def without_limit(limits, name):
    """Return limits without that of a cell."""
    return tuple([each for each in limits if each[0] != name])


def renamed(name, former, other):
    """Return a name, or the other one in the place of the former."""
    return other if name == former else name


def renamed_sheet(sheet, former, other):
    """Return a sheet in which a cell has another name."""
    rows = []
    for name, kind, content in sheet.rows():
        form = sheet.form_of(name)
        if kind == "formula" and former in names_in(form):
            content = form_text(substituted(form, former, cell_form(other)))
        rows.append((renamed(name, former, other), kind, content))
    return Sheet(rows)


def desk_in_state(sheet, held, limits):
    """Return a new desk with held cells and limits that the own table of the sheet keeps."""
    desk = Desk(sheet)
    desk._state = (sheet, checked_names(sheet, held), tuple(sorted(checked_limits(sheet, limits))))
    return desk


def replay(sheet, operations):
    """Return a new desk for a sheet on which operations were performed one after the other."""
    for index, operation in enumerate(operations):
        if not is_operation(operation):
            raise InvalidOperation(index)
    desk = Desk(sheet)
    for word, *arguments in operations:
        perform(desk, word, arguments)
    return desk


def is_operation(value):
    """Return whether any value is an operation that can be performed anew."""
    if not isinstance(value, (tuple, list)) or len(value) == 0:
        return False
    word, *arguments = value
    if not isinstance(word, str) or word not in OPERATIONS:
        return False
    kinds = OPERATIONS[word]
    if len(arguments) != len(kinds):
        return False
    return all([is_argument(kind, argument) for kind, argument in zip(kinds, arguments)])


def is_argument(kind, value):
    """Return whether any value may stand for an argument: whether it is good is seen when it is used."""
    if kind == "name":
        return isinstance(value, str)
    if kind == "wishes":
        return isinstance(value, (tuple, list))
    return True


def perform(desk, word, arguments):
    """Perform an operation on a desk; return the inputs that changed, or None if it does not tell them."""
    first, last = arguments[0], arguments[-1]
    if word == "add_input":
        return desk.add_input(first, last)
    if word == "add_formula":
        return desk.add_formula(first, last)
    if word == "remove":
        return desk.remove(first)
    if word == "set_values":
        return desk.set_values(first)
    if word == "define":
        return desk.define(first, last)
    if word == "hold":
        return desk.hold(first)
    if word == "free":
        return desk.free(first)
    if word == "limit":
        return desk.limit(first, arguments[1], last)
    if word == "unlimit":
        return desk.unlimit(first)
    if word == "exchange_roles":
        return desk.exchange_roles(first, last)
    return desk.rename(first, last)
