"""The exceptions of the package."""


class SheetError(ValueError):
    """Whatever the package refuses."""


class ZeroBottom(SheetError):
    """A number would have 0 as its bottom."""


class InvalidNumber(SheetError):
    """A value is not a number."""

    def __init__(self, value):
        self.value = value


class InvalidText(SheetError):
    """A text does not write a number."""

    def __init__(self, text):
        self.text = text


class FormulaSyntax(SheetError):
    """A text is not a formula."""

    def __init__(self, position):
        self.position = position


class NotLinear(SheetError):
    """A formula multiplies or divides by what has cells."""

    def __init__(self, position):
        self.position = position


class ZeroDivisor(SheetError):
    """A formula divides by zero."""

    def __init__(self, position):
        self.position = position


class InvalidRow(SheetError):
    """A value is not a row of a sheet."""

    def __init__(self, index):
        self.index = index


class InvalidName(SheetError):
    """A value is not a name."""

    def __init__(self, name):
        self.name = name


class DuplicateCell(SheetError):
    """A cell is named twice."""

    def __init__(self, name):
        self.name = name


class BadFormula(SheetError):
    """The formula of a row cannot be read."""

    def __init__(self, name, word, position):
        self.name = name
        self.word = word
        self.position = position


class UnknownCell(SheetError):
    """There is no cell of this name."""

    def __init__(self, name):
        self.name = name


class CircularCell(SheetError):
    """The form of a cell leads back to it."""

    def __init__(self, name):
        self.name = name


class NotInput(SheetError):
    """A cell is not an input."""

    def __init__(self, name):
        self.name = name


class NotComputed(SheetError):
    """A cell is not computed."""

    def __init__(self, name):
        self.name = name


class InvalidTable(SheetError):
    """A value is not a table of a sheet."""

    def __init__(self, value):
        self.value = value


class CellInUse(SheetError):
    """The form of another cell names a cell."""

    def __init__(self, name, user):
        self.name = name
        self.user = user


class InvalidWish(SheetError):
    """A value is not a wish."""

    def __init__(self, index):
        self.index = index


class InvalidLimit(SheetError):
    """A value is not a limit."""

    def __init__(self, index):
        self.index = index


class EmptyLimit(SheetError):
    """The low of a limit is greater than its high."""

    def __init__(self, name):
        self.name = name


class UnknownCondition(SheetError):
    """There is no such condition."""

    def __init__(self, condition):
        self.condition = condition


class InvalidWeights(SheetError):
    """A value is not weights of the conditions."""


class UnknownSide(SheetError):
    """A value is not a side of a limit."""

    def __init__(self, side):
        self.side = side


class InvalidMove(SheetError):
    """A value is not a move."""

    def __init__(self, move):
        self.move = move


class InvalidForm(SheetError):
    """A value is not a form."""

    def __init__(self, form):
        self.form = form


class UnlikeCells(SheetError):
    """A cell is in only one of two sheets."""

    def __init__(self, name):
        self.name = name


class AlreadyHeld(SheetError):
    """A cell is held already."""

    def __init__(self, name):
        self.name = name


class NotHeld(SheetError):
    """A cell is not held."""

    def __init__(self, name):
        self.name = name


class NoLimit(SheetError):
    """A cell has no limit."""

    def __init__(self, name):
        self.name = name


class Refused(SheetError):
    """No table keeps all conditions, as the weights show."""

    def __init__(self, weights):
        self.weights = weights


class RolesKept(SheetError):
    """Two cells cannot exchange their roles, as the move shows."""

    def __init__(self, move):
        self.move = move


class NoMark(SheetError):
    """There is no mark with this word."""

    def __init__(self, word):
        self.word = word


class NothingToUndo(SheetError):
    """No step is left that can be undone."""


class NothingToRedo(SheetError):
    """No step is left that can be redone."""


class InvalidOperation(SheetError):
    """A value is not an operation of a desk."""

    def __init__(self, index):
        self.index = index


class BadText(SheetError):
    """A line or a part of a text does not have its form."""

    def __init__(self, at):
        self.at = at


class BadCommand(SheetError):
    """A line is not a command."""

    def __init__(self, line):
        self.line = line
