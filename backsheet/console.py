"""The console: commands for a desk, as texts."""

from backsheet.changes import solve
from backsheet.desk import Desk, changed_inputs, perform
from backsheet.errors import BadCommand, Refused, SheetError
from backsheet.formatting import desk_text, read_number, table_text, weights_text
from backsheet.forms import is_name
from backsheet.ranges import greatest_value, least_value
from backsheet.ratios import ratio_text
from backsheet.sheets import Sheet

# The operation of the desk that each of these commands performs.
OPERATIONS = {
    "input": "add_input", "cell": "add_formula", "define": "define", "remove": "remove", "rename": "rename",
    "set": "set_values", "hold": "hold", "free": "free", "limit": "limit", "unlimit": "unlimit",
    "exchange": "exchange_roles",
}

# What stands behind the word of each command, but for "set", which has any number of pairs.
ARGUMENTS = {
    "input": ("name", "number"), "cell": ("name", "formula"), "define": ("name", "formula"), "remove": ("name",),
    "rename": ("name", "name"), "hold": ("name",), "free": ("name",), "limit": ("name", "bound", "bound"),
    "unlimit": ("name",), "exchange": ("name", "name"), "mark": ("name",), "back": ("name",), "undo": (), "redo": (),
    "value": ("name",), "least": ("name",), "greatest": ("name",), "why": ("name", "number"), "show": (), "steps": (),
}
NO_BOUND = "-"


class Console:
    """One desk, on which commands are performed."""

    def __init__(self):
        self._desk = Desk(Sheet())

    def desk_copy(self):
        """Return an independent copy of the desk."""
        return self._desk.copy()

    def enter(self, line):
        """Perform a command; return its answer, or the error that it led to."""
        word, arguments = read_command(line)
        try:
            return answer_of(self._desk, word, arguments)
        except Refused as refusal:
            return "error Refused " + weights_text(refusal.weights)
        except SheetError as fault:
            return "error " + fault.__class__.__name__


def read_command(line):
    """Return the word and the arguments of a command."""
    word, *parts = line.split(" ")
    arguments = None
    if word == "set":
        arguments = read_pairs(parts)
    elif word in ("cell", "define"):
        # A formula is the rest of the line, with all its spaces.
        arguments = read_arguments(ARGUMENTS[word], line.split(" ", 2)[1:])
    elif word in ARGUMENTS:
        arguments = read_arguments(ARGUMENTS[word], parts)
    if arguments is None:
        raise BadCommand(line)
    return word, arguments


def read_pairs(parts):
    """Read one pair of a name and a number or more, as the only argument; or return None."""
    arguments = read_arguments(("name", "number") * max(1, len(parts) // 2), parts)
    if arguments is None:
        return None
    return [list(zip(arguments[::2], arguments[1::2]))]


def read_arguments(kinds, parts):
    """Read arguments of given kinds, or return None."""
    if len(parts) != len(kinds) or not all([is_argument(kind, part) for kind, part in zip(kinds, parts)]):
        return None
    return [read_number(part) if kind in ("number", "bound") else part for kind, part in zip(kinds, parts)]


def is_argument(kind, part):
    """Return whether a text has the form of an argument of a kind."""
    if kind == "name":
        return is_name(part)
    if kind == "formula":
        return part != ""
    return read_number(part) is not None or (kind == "bound" and part == NO_BOUND)


def answer_of(desk, word, arguments):
    """Perform a command on a desk, and return its answer."""
    if word in OPERATIONS:
        names = perform(desk, OPERATIONS[word], arguments)
        return "ok" if names is None or names == () else changes_text(desk.present_sheet(), names)
    if word == "mark":
        desk.mark(arguments[0])
    elif word == "back":
        desk.back(arguments[0])
    elif word == "undo":
        desk.undo()
    elif word == "redo":
        desk.redo()
    else:
        return found_text(desk, word, arguments)
    return "ok"


def changes_text(sheet, names):
    """Write inputs that changed, with their new numbers."""
    return table_text([(name, sheet.value_of(name)) for name in names])


def found_text(desk, word, arguments):
    """Return the answer to a command that changes nothing."""
    if word == "value":
        return ratio_text(desk.value_of(arguments[0]))
    if word == "show":
        return " | ".join(desk_text(desk).split("\n")) if len(desk.present_sheet()) > 0 else "empty"
    if word == "steps":
        return str(len(desk))
    if word == "why":
        return reason_text(desk, arguments[0], arguments[1])
    return end_text(desk, word, arguments[0])


def reason_text(desk, name, number):
    """Say whether a wish can be met, with the inputs that would change, or why it cannot."""
    sheet = desk.present_sheet()
    word, found = solve(sheet, [(name, number)], held=desk.held_cells(), limits=desk.present_limits())
    if word == "refused":
        return "refused " + weights_text(found)
    names = changed_inputs(sheet, found)
    return "possible" if names == () else "possible " + changes_text(found, names)


def end_text(desk, word, name):
    """Say how far a cell can go, down or up."""
    sheet, held, limits = desk.present_sheet(), desk.held_cells(), desk.present_limits()
    if word == "least":
        answer = least_value(sheet, name, held=held, limits=limits)
    else:
        answer = greatest_value(sheet, name, held=held, limits=limits)
    # The present table keeps all conditions, so that nothing is refused.
    return ratio_text(answer[1]) if answer[0] == "bound" else "endless"
