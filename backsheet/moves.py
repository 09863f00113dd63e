"""Moves: changes of cells that lead from each table to another one."""

from backsheet.conditions import checked_names
from backsheet.errors import InvalidMove, InvalidNumber, InvalidTable
from backsheet.forms import change_at, factor_in
from backsheet.ratios import ZERO, add, compare, divide, is_number, is_ratio, multiply, subtract
from backsheet.sheets import is_table
from backsheet.vectors import elementary_vectors, still_vectors, whole_vector


def is_move(sheet, value, *, held=()):
    """Return whether any value is a move that keeps held cells."""
    kept = checked_names(sheet, held)
    if not isinstance(value, (tuple, list)) or not all([is_change(sheet, part) for part in value]):
        return False
    names = [name for name, _ in value]
    if names != sorted(set(names)) or not all([name not in kept for name in names]):
        return False
    changes = dict(value)
    numbers = [(name, changes.get(name, ZERO)) for name in sheet.cell_names()]
    return all([change_at(sheet.form_of(name), numbers) == number for name, number in numbers])


def is_change(sheet, value):
    """Return whether any value is a pair of a cell and a ratio other than zero."""
    if not isinstance(value, tuple) or len(value) != 2:
        return False
    name, number = value
    return name in sheet.cell_names() and is_ratio(number) and number != ZERO


def move_between(sheet, one, other):
    """Return the move that leads from one table to another."""
    for table in (one, other):
        if not is_table(sheet, table):
            raise InvalidTable(table)
    ends = dict(other)
    return move_of([(name, subtract(ends[name], number)) for name, number in one])


def move_of(changes):
    """Return the move that consists of changes of all cells."""
    return tuple(sorted([change for change in changes if change[1] != ZERO]))


def move_by_inputs(sheet, changes):
    """Return the move that changes the inputs in a given way."""
    return move_of([(name, change_at(sheet.form_by_inputs(name), changes)) for name in sheet.cell_names()])


def moved(sheet, move, factor):
    """Return the sheet whose own table is the present one plus a multiple of a move."""
    if not is_move(sheet, move):
        raise InvalidMove(move)
    if not is_number(factor):
        raise InvalidNumber(factor)
    return sheet.with_table(moved_table(sheet.own_table(), move, factor))


def moved_table(table, move, factor):
    """Return a table plus a multiple of a move."""
    changes = dict(move)
    return tuple([(name, add(number, multiply(factor, changes.get(name, ZERO)))) for name, number in table])


def elementary_moves(sheet, *, held=()):
    """Return all elementary moves among those that keep held cells."""
    kept = checked_names(sheet, held)
    names = sorted(sheet.cell_names())
    vectors = [input_vector(sheet, names, name) for name in sheet.input_names()]
    for name in kept:
        vectors = still_vectors(vectors, names.index(name))
    moves = {}
    for at in range(len(names)):
        for vector in elementary_vectors(vectors, at):
            pairs = [(name, (number, 1)) for name, number in zip(names, vector) if number != 0]
            moves[tuple([name for name, _ in pairs])] = tuple(pairs)
        vectors = still_vectors(vectors, at)
    return tuple([moves[each] for each in sorted(moves)])


def input_vector(sheet, names, name):
    """Return how cells change with one input, as integers."""
    return whole_vector([factor_in(sheet.form_by_inputs(each), name) for each in names])


def split_move(sheet, move, *, held=()):
    """Write a move as a sum of elementary moves that do not go against it."""
    parts = []
    rest = move
    for each in moves_along(sheet, move, held):
        if is_along(each, rest):
            factor = largest_share(each, rest)
            parts.append((each, factor))
            rest = move_of(moved_table(rest, each, multiply(-1, factor)))
    return tuple(parts)


def moves_along(sheet, move, held):
    """Return the elementary moves, with the signs that they need, that do not go against a move."""
    if not is_move(sheet, move, held=held):
        raise InvalidMove(move)
    changes = dict(move)
    others = [name for name in sheet.cell_names() if name not in changes]
    signed = [signed_move(each, changes) for each in elementary_moves(sheet, held=(*held, *others))]
    return [each for each in signed if is_along(each, move)]


def signed_move(elementary, changes):
    """Return an elementary move, with all signs changed if its first cell needs it."""
    name, number = elementary[0]
    sign = compare(multiply(number, changes[name]), 0)
    return tuple([(each, multiply(sign, worth)) for each, worth in elementary])


def is_along(elementary, move):
    """Return whether a move changes all cells of an elementary one, in the same directions."""
    changes = dict(move)
    return all([compare(multiply(number, changes.get(name, ZERO)), 0) > 0 for name, number in elementary])


def largest_share(elementary, move):
    """Return how often an elementary move can be taken from a move that it does not go against."""
    changes = dict(move)
    shares = [divide(changes[name], number) for name, number in elementary]
    least = shares[0]
    for share in shares:
        if compare(share, least) < 0:
            least = share
    return least


def is_split(sheet, move, parts, *, held=()):
    """Return whether any value is a split of a move, as split_move returns them."""
    along = moves_along(sheet, move, held)
    if not isinstance(parts, (tuple, list)) or len(parts) > len(move):
        return False
    if not all([is_part(sheet, part, along) for part in parts]):
        return False
    if len(set([elementary for elementary, _ in parts])) < len(parts):
        return False
    rest = move
    for elementary, factor in parts:
        rest = moved_table(rest, elementary, multiply(-1, factor))
    return move_of(rest) == ()


def is_part(sheet, value, along):
    """Return whether any value is a pair of one of some elementary moves and a ratio above 0."""
    if not isinstance(value, tuple) or len(value) != 2:
        return False
    elementary, factor = value
    # A move that is equal to one of them may still have True in the place of 1.
    return elementary in along and is_move(sheet, elementary) and is_ratio(factor) and compare(factor, 0) > 0
