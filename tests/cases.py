"""What several tests use: checks, values that are of no use, sheets, and other ways to reckon with them."""

import itertools
import unittest
from fractions import Fraction

from backsheet import errors
from backsheet.sheets import Sheet

LONG = 7 * 10 ** 199 + 3

# Values that are no tables, weights, moves, parts or answers, nor pairs of these.
ODD_VALUES = (
    None, True, False, 0, 7, "", "a", "wish", ((),), (2, 4), (1, 0), (1, 2, 3, 4), [1, 2], (1,), ["a", 3], (None, None),
    (True, 1), (1, True), [["a", 3]], (("a",),), ("a",), ("low", "b"), ["a", 1, 2], (("a", 3), None), ((None, (1, 1)),),
    (("none", (1, 1)),), ((("a",), (1, 1)),), [["a", (1, 1)]],
)
NO_NAMES = ("none", "", "sum", "A", "a\n", "abcdefghij", "a b")

TOTAL = Sheet([("net", "input", 100), ("tax", "input", 20), ("total", "formula", "net + tax")])
PAIR = Sheet([("a", "input", 1), ("b", "input", 2), ("c", "formula", "a + b")])
LARGE = Sheet([
    ("k", "formula", "3*f - g/7 + 1000"), ("a", "input", (-1, 3)), ("b", "input", 12), ("g", "formula", "a + b*2 - 5"),
    ("c", "input", 0), ("h", "formula", "average(a, b, c, d, e, f)"), ("d", "input", 7), ("e", "input", (5, 2)),
    ("i", "formula", "g - h*6 + 2*c"), ("f", "input", 1), ("j", "formula", "(i + k)/3 - e"),
    ("l", "formula", "j - 2*d"),
])


class Case(unittest.TestCase):

    def check_error(self, kind, fields, call, *arguments, **named):
        with self.assertRaises(errors.SheetError) as caught:
            call(*arguments, **named)
        self.assertIs(caught.exception.__class__, kind)
        self.assertEqual(vars(caught.exception), fields)

    def check_lists(self, sheet, call, *arguments, **named):
        """A call raises what [19] says, and the lists are checked in their order."""
        name = sheet.cell_names()[0]
        for lists, kind, fields in (
            ({"wishes": [(name, 1), (name, True)]}, errors.InvalidWish, {"index": 1}),
            ({"wishes": [("none", 1), None]}, errors.UnknownCell, {"name": "none"}),
            ({"wishes": [(name, 1), (name, 2)]}, errors.DuplicateCell, {"name": name}),
            ({"held": [name, "sum", "other"]}, errors.UnknownCell, {"name": "sum"}),
            ({"limits": [(name, 1, 2), (name, "1", None)]}, errors.InvalidLimit, {"index": 1}),
            ({"limits": [("none", 2, 1)]}, errors.UnknownCell, {"name": "none"}),
            ({"limits": [(name, 1, 2), (name, 2, 1)]}, errors.DuplicateCell, {"name": name}),
            ({"limits": [(name, 2, 1), None]}, errors.EmptyLimit, {"name": name}),
            ({"wishes": [None], "held": ["none"], "limits": [None]}, errors.InvalidWish, {"index": 0}),
            ({"held": ["none"], "limits": [None]}, errors.UnknownCell, {"name": "none"}),
        ):
            passed = {**{word: () for word in named.get("needed", ())}, **lists}
            others = {word: named[word] for word in named if word != "needed"}
            self.check_error(kind, fields, call, *arguments, **others, **passed)


def fraction(number):
    return Fraction(number) if isinstance(number, int) else Fraction(*number)


def pair(number):
    """The ratio of a Fraction."""
    return number.as_integer_ratio()


def value_of(form, table):
    """The value of a form, by Fractions."""
    terms, constant = form
    values = dict(table)
    return sum([fraction(factor) * fraction(values[name]) for name, factor in terms], fraction(constant))


def sides_of(sheet, wishes=(), held=(), limits=()):
    """The conditions with their left sides as dicts of Fractions, in which "" is the constant."""
    sides = {}
    for name in sheet.computed_names():
        terms, constant = sheet.form_of(name)
        sides["formula", name] = {"": -fraction(constant), **{each: -fraction(factor) for each, factor in terms}}
        sides["formula", name][name] = Fraction(1)
    for name, number in wishes:
        sides["wish", name] = {name: Fraction(1), "": -fraction(number)}
    for name in held:
        sides["held", name] = {name: Fraction(1), "": -fraction(sheet.value_of(name))}
    for name, low, high in limits:
        if low is not None:
            sides["low", name] = {name: Fraction(1), "": -fraction(low)}
        if high is not None:
            sides["high", name] = {name: Fraction(-1), "": fraction(high)}
    return sides


def added(*parts):
    """The sum of dicts of Fractions, each with a factor, without zeros."""
    total = {}
    for factor, part in parts:
        for name in part:
            total[name] = total.get(name, 0) + factor * part[name]
    return {name: total[name] for name in total if total[name]}


def sum_of(sides, weights):
    """The weighted sum of weights that must be good ones, with signs as their conditions ask for."""
    assert isinstance(weights, tuple)
    conditions = [condition for condition, _ in weights]
    assert conditions == sorted(set(conditions)) and all(condition in sides for condition in conditions)
    for condition, (top, _) in weights:
        assert top > 0 or top < 0 and condition[0] not in ("low", "high")
    return added(*[(fraction(factor), sides[condition]) for condition, factor in weights])


def is_kept(sides, table):
    """Whether a table, a dict of Fractions, keeps conditions."""
    values = {"": 1, **table}
    for (word, _), side in sides.items():
        worth = sum([side[name] * values[name] for name in side])
        if worth < 0 or worth > 0 and word not in ("low", "high"):
            return False
    return True


def is_table_kept(sheet, sides, table):
    """Whether a table has the form in which tables are returned, and keeps conditions."""
    names = tuple([name for name, _ in table])
    return isinstance(table, tuple) and names == sheet.cell_names() and is_kept(sides, fractions_of(table))


def fractions_of(table):
    return {name: Fraction(*number) for name, number in table}


def eliminated(rows, name):
    """Rows (a dict of Fractions, and whether it must be 0, else at least 0) without one name."""
    for at, (row, exact) in enumerate(rows):
        if exact and row.get(name):
            others = rows[:at] + rows[at + 1:]
            return [(added((1, each), (-each.get(name, 0) / row[name], row)), kind) for each, kind in others]
    above = [row for row, _ in rows if row.get(name, 0) > 0]
    below = [row for row, _ in rows if row.get(name, 0) < 0]
    found = [(row, exact) for row, exact in rows if not row.get(name)]
    found += [(added((1 / one[name], one), (-1 / two[name], two)), False) for one in above for two in below]
    return [found[at] for at in range(len(found)) if found[at] not in found[:at]]


def range_of(sheet, sides, name):
    """None if no table keeps conditions, else the ends of the range of a cell, None for no end: by elimination."""
    rows = [(side, word not in ("low", "high")) for (word, _), side in sides.items()]
    for each in sheet.cell_names():
        if each != name:
            rows = eliminated(rows, each)
    low = high = None
    for row, exact in rows:
        factor, constant = row.get(name, 0), row.get("", 0)
        if not factor and (constant < 0 or exact and constant):
            return None
        if factor and (exact or factor > 0):
            low = -constant / factor if low is None else max(low, -constant / factor)
        if factor and (exact or factor < 0):
            high = -constant / factor if high is None else min(high, -constant / factor)
    return None if low is not None and high is not None and low > high else (low, high)


def is_possible(sheet, sides):
    """Whether a table keeps conditions: by elimination."""
    if len(sheet) == 0:
        return True
    return range_of(sheet, sides, sheet.cell_names()[0]) is not None


def fixed_side(name, number):
    return {name: Fraction(1), "": -number}


def solution(sheet, wishes, held=(), limits=()):
    """The set of inputs and the numbers that [31] asks for, as a dict, or None: by trying all sets in their order."""
    sides = sides_of(sheet, wishes, held, limits)
    own = fractions_of(sheet.own_table())
    free = sorted(set(sheet.input_names()) - set(held))
    for names in [each for size in range(len(free) + 1) for each in itertools.combinations(free, size)]:
        fixed = {("own", name): fixed_side(name, own[name]) for name in free if name not in names}
        if is_possible(sheet, {**sides, **fixed}):
            numbers = {}
            for name in names:
                low, high = range_of(sheet, {**sides, **fixed}, name)
                numbers[name] = low if low is not None and own[name] < low else \
                    high if high is not None and own[name] > high else own[name]
                fixed["own", name] = fixed_side(name, numbers[name])
            return numbers
    return None


def rank(vectors):
    """The rank of vectors of Fractions."""
    vectors = [list(vector) for vector in vectors]
    found = 0
    for at in range(len(vectors[0]) if vectors else 0):
        for pivot in [row for row in vectors[found:] if row[at]]:
            vectors.remove(pivot)
            vectors.insert(found, pivot)
            rest = [(row, row[at] / pivot[at]) for row in vectors[found + 1:]]
            vectors[found + 1:] = [[one - share * two for one, two in zip(row, pivot)] for row, share in rest]
            found += 1
            break
    return found


def moves_by_inputs(sheet):
    """One move, as a dict of Fractions, for each input."""
    found = []
    for name in sheet.input_names():
        terms = [(each, dict(sheet.form_by_inputs(each)[0]).get(name, (0, 1))) for each in sheet.cell_names()]
        found.append({each: Fraction(*number) for each, number in terms})
    return found


def dimension(sheet, cells):
    """How many independent moves change no other cells than these."""
    moves = moves_by_inputs(sheet)
    others = [[move[name] for move in moves] for name in sheet.cell_names() if name not in cells]
    return len(moves) - rank(others)


def vectors_of(sheet, names):
    """How much each of some cells changes with each input."""
    moves = moves_by_inputs(sheet)
    return [[move[name] for move in moves] for name in names]


def is_fixed(sheet, names, name):
    """Whether some cells fix a cell: its changes are sums of multiples of theirs."""
    vectors = vectors_of(sheet, names)
    return rank([*vectors, *vectors_of(sheet, [name])]) == rank(vectors)


def some_tables(sheet):
    """The own table and others, so many that a form by the inputs that is 0 in all of them is 0."""
    tables = [sheet.own_table()]
    for at, name in enumerate(sheet.input_names()):
        tables.append(sheet.with_input(name, (2 * at + 1, 2)).own_table())
        sheet = sheet.with_input(name, 7 - at)
        tables.append(sheet.own_table())
    return tables


def random_sheet(source, inputs=3, computed=3):
    """A sheet with small numbers in which many things cancel."""
    names = source.sample("abcdefghijkl", inputs + computed)
    rows = [(name, "input", source.choice([0, 1, 2, 5, -3, (1, 2)])) for name in names[:inputs]]
    for at in range(inputs, inputs + computed):
        known = names[:at] or ["1"]
        signs = [source.choice(["+ ", "- ", "+ 2*", "- 1/2*"]) for _ in range(source.randrange(4))]
        parts = [sign + source.choice(known) for sign in signs]
        rows.append((names[at], "formula", str(source.randrange(3)) + " " + " ".join(parts)))
    source.shuffle(rows)
    return Sheet(rows)


def random_lists(source, sheet):
    """Wishes, held cells and limits, often about the values that cells have."""
    names = list(sheet.cell_names())
    count = len(names)
    wishes = [(name, near(source, sheet, name)) for name in source.sample(names, min(count, source.randrange(3)))]
    held = source.sample(names, min(count, source.choice([0, 0, 1, 2])))
    limits = []
    for name in source.sample(names, source.randrange(count + 1)):
        low, high = sorted([fraction(near(source, sheet, name)), fraction(near(source, sheet, name))])
        ends = [source.choice([None, pair(end), pair(end)]) for end in (low, high)]
        limits.append((name, *ends))
    return {"wishes": wishes, "held": held, "limits": limits}


def near(source, sheet, name):
    own = fraction(sheet.value_of(name))
    return pair(own + source.choice([0, 0, 1, -1, 2, -2, 5, Fraction(1, 3), -7]))


def large_lists(digits):
    """24 conditions for the large sheet, with long numbers."""
    unit = (10 ** digits - 1, 10 ** digits)
    limits = []
    for at, name in enumerate("abcdefghijk"):
        value = fraction(LARGE.value_of(name))
        high = value + Fraction(at + 2, 3 ** (at + digits // 2))
        limits.append((name, pair(value - (at + 1) * fraction(unit)), pair(high)))
    wish = fraction(LARGE.value_of("l")) - Fraction(1, 7 ** digits)
    return {"wishes": [("l", pair(wish))], "held": ["e"], "limits": limits}
