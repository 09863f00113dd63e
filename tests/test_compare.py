"""[42], [43] and [44]: comparing and joining sheets."""

import itertools
import random

import cases
from cases import LARGE, LONG, ODD_VALUES, PAIR, TOTAL, Case, Fraction

from backsheet import errors
from backsheet.compare import follows, is_join_refusal, joined, same_tables
from backsheet.conditions import weighted_sum
from backsheet.forms import add_forms, cell_form, constant_form, form_text, is_form, scale_form, substituted
from backsheet.formulas import parse_formula
from backsheet.roles import exchange, rebased
from backsheet.sheets import Sheet, is_table

CHAIN = Sheet([("d", "formula", "c - 2*b"), ("a", "input", 1), ("c", "formula", "3*b + a"),
               ("b", "formula", "a*2 + 5")])
ONE = Sheet([("a", "input", 1), ("b", "formula", "a + 1")])
TWO = Sheet([("a", "input", 1), ("b", "formula", "a + 2")])
REFUSAL = (((0, "b"), (-1, 1)), ((1, "b"), (1, 1)))


def replaced(sheet, form):
    """The form by the inputs, as a dict of Fractions in which "" is the constant."""
    terms, constant = form
    parts = [(Fraction(1), {"": Fraction(*constant)})]
    for name, factor in terms:
        inner, rest = sheet.form_by_inputs(name)
        parts.append((Fraction(*factor), {"": Fraction(*rest), **{each: Fraction(*number) for each, number in inner}}))
    return cases.added(*parts)


class CompareCase(Case):

    def numbers_fit(self, sheet, table):
        """Whether numbers, by their names, are a table of a sheet."""
        numbers = dict(table)
        return is_table(sheet, tuple([(name, numbers[name]) for name in sheet.cell_names()]))


class FollowsTest(CompareCase):

    def check(self, sheet, text, expected):
        form = text if isinstance(text, tuple) else parse_formula(text)
        answer = follows(sheet, form)
        word, found = answer
        self.assertEqual(word, expected)
        self.assertEqual(expected == "weights", replaced(sheet, form) == {})
        if word == "weights":
            self.assertTrue(all(condition[0] == "formula" for condition, _ in found))
            self.assertEqual(weighted_sum(sheet, found), form)
            total = cases.sum_of(cases.sides_of(sheet), found)
            self.assertEqual(total, cases.added((1, {"": Fraction(*form[1]), **cases.fractions_of(form[0])})))
        else:
            self.assertIsInstance(found, tuple)
            self.assertTrue(cases.is_table_kept(sheet, cases.sides_of(sheet), found) and is_table(sheet, found))
            self.assertNotEqual(cases.value_of(form, found), 0)
        self.assertEqual(follows(sheet=sheet, form=form), answer)
        return found

    def test_forms_that_follow(self):
        self.assertEqual(self.check(TOTAL, "total - net - tax", "weights"), ((("formula", "total"), (1, 1)),))
        self.assertEqual(self.check(TOTAL, "(net + tax - total)/3", "weights"), ((("formula", "total"), (-1, 3)),))
        self.assertEqual(self.check(CHAIN, "b - 2*a - 5", "weights"), ((("formula", "b"), (1, 1)),))
        # By way of another computed cell.
        self.assertEqual(self.check(CHAIN, "c - 7*a - 15", "weights"),
                         ((("formula", "b"), (3, 1)), (("formula", "c"), (1, 1))))
        self.assertEqual(self.check(CHAIN, "2*d - 6*a - 10", "weights"),
                         ((("formula", "b"), (2, 1)), (("formula", "c"), (2, 1)), (("formula", "d"), (2, 1))))
        # What of one cell comes in twice cancels.
        self.assertEqual(self.check(CHAIN, "d - c + 2*b", "weights"), ((("formula", "d"), (1, 1)),))
        self.assertEqual(self.check(CHAIN, "c - b*3.5 + 5/2", "weights"),
                         ((("formula", "b"), (-1, 2)), (("formula", "c"), (1, 1))))

    def test_forms_that_do_not(self):
        self.assertEqual(self.check(TOTAL, "net", "table"), TOTAL.own_table())
        for text in ("net - 100", "total - 120", "net + tax - 120", "total - 6*tax", "net - tax*5",
                     "total - net - tax + 1",
                     "total - net", "net - tax", "1/7*total - 120/7"):
            self.check(TOTAL, text, "table")
        for text in ("a - 1", "b - 7", "c - 22", "d - 8", "a - b/7", "c - b*3 - 1", "d - 8*a", "b - 2*a - 6"):
            self.check(CHAIN, text, "table")

    def test_forms_without_terms(self):
        for sheet in (TOTAL, CHAIN, Sheet()):
            self.assertEqual(self.check(sheet, constant_form(0), "weights"), ())
            for number in (1, (-1, LONG), LONG):
                self.assertEqual(self.check(sheet, constant_form(number), "table"), sheet.own_table())

    def test_cells_with_one_value(self):
        sheet = Sheet([("a", "formula", "2"), ("b", "formula", "a - c + c"), ("c", "input", 9)])
        self.check(sheet, "a - 2", "weights")
        self.check(sheet, "b + a - 4", "weights")
        self.check(sheet, "b - 1", "table")
        self.check(sheet, "b - a - c + 9", "table")

    def test_random_forms(self):
        source = random.Random(42)
        counts = {"weights": 0, "table": 0}
        for _ in range(200):
            sheet = cases.random_sheet(source, source.randrange(1, 4), source.randrange(1, 5))
            form = constant_form(0)
            for name in sheet.computed_names():
                side = add_forms(cell_form(name), scale_form(-1, sheet.form_of(name)))
                form = add_forms(form, scale_form((source.randrange(-3, 4), 1), side))
            if source.random() < 0.4:
                form = add_forms(form, source.choice([constant_form((1, 3)), cell_form(sheet.cell_names()[0])]))
            expected = "weights" if replaced(sheet, form) == {} else "table"
            self.check(sheet, form, expected)
            counts[expected] += 1
        self.assertGreater(min(counts.values()), 40)

    def test_long_numbers_and_a_large_sheet(self):
        form = constant_form(0)
        for at, name in enumerate(LARGE.computed_names()):
            side = add_forms(cell_form(name), scale_form(-1, LARGE.form_of(name)))
            form = add_forms(form, scale_form((LONG, 10 ** 199 + at), side))
        self.assertEqual(len(self.check(LARGE, form, "weights")), 6)
        self.check(LARGE, add_forms(form, constant_form((1, LONG))), "table")

    def test_values_that_are_no_forms(self):
        good = (("net", (1, 1)),)
        for value in (
            *ODD_VALUES, (), [], (good,), (good, 0), (good, (0, 1), 1), [good, (0, 1)], (list(good), (0, 1)),
            ((("net", 1),), (0, 1)), ((("net", (0, 1)),), (0, 1)), ((["net", (1, 1)],), (0, 1)), (good, (0, 2)),
            (good, (True, 1)), (good, [0, 1]), ((*good, *good), (0, 1)), (((("net",), (1, 1)),), (0, 1)),
            ((("tax", (1, 1)), ("net", (1, 1))), (0, 1)), ((("sum", (1, 1)),), (0, 1)), ((("Net", (1, 1)),), (0, 1)),
            ((("nets", (1, 1)), ("net",)), (0, 1)), (((None, (1, 1)),), (0, 1)), ("", (0, 1)), (None, (0, 1)),
            ((("abcdefghi", (1, 1)),), (0, 1)), ((("net", (1, 1), 1),), (0, 1)), ((), None),
            ((("none", (1, 0)),), (0, 1)),
        ):
            with self.subTest(value=value):
                self.assertFalse(is_form(value))
                self.check_error(errors.InvalidForm, {"form": value}, follows, TOTAL, value)
                self.check_error(errors.InvalidForm, {"form": value}, follows, sheet=Sheet(), form=value)

    def test_unknown_cells(self):
        for text, name in (("z", "z"), ("net + z + b - y", "b"), ("tax + u - z", "u"), ("z - z + u", "u")):
            self.check_error(errors.UnknownCell, {"name": name}, follows, TOTAL, parse_formula(text))
        self.check_error(errors.UnknownCell, {"name": "net"}, follows, Sheet(), parse_formula("net + tax"))


class SameTablesTest(CompareCase):

    def check(self, one, other, same):
        """Whether the tables are the same; a table that parts them is of one sheet alone."""
        for first, second in ((one, other), (other, one)):
            answer = same_tables(first, second)
            self.assertEqual(same_tables(one=first, other=second), answer)
            if same:
                self.assertEqual(answer, ("same",))
            else:
                word, which, table = answer
                self.assertEqual((word, which.__class__), ("parted", int))
                sheets = (first, second)
                self.assertTrue(is_table(sheets[which], table) and isinstance(table, tuple))
                self.assertTrue(cases.is_table_kept(sheets[which], cases.sides_of(sheets[which]), table))
                self.assertFalse(self.numbers_fit(sheets[1 - which], table))
        return same_tables(one, other)

    def test_a_sheet_and_itself(self):
        for sheet in (TOTAL, PAIR, CHAIN, LARGE, Sheet()):
            self.check(sheet, sheet, True)
            self.check(sheet, Sheet(sheet.rows()), True)
            self.check(sheet, Sheet(sheet.rows()[::-1]), True)

    def test_other_numbers_and_formulas_written_otherwise(self):
        self.check(TOTAL, TOTAL.with_input("net", LONG), True)
        self.check(TOTAL, TOTAL.with_row(("total", "formula", "sum(tax, 2*net) - net + 0*tax")), True)
        self.check(CHAIN, CHAIN.with_row(("d", "formula", "3*a + 5")), True)

    def test_exchanged_and_rebased_sheets(self):
        self.check(TOTAL, exchange(TOTAL, "tax", "total")[1], True)
        self.check(exchange(TOTAL, "net", "total")[1], exchange(TOTAL, "tax", "total")[1], True)
        for name in LARGE.input_names():
            word, changed = exchange(LARGE, name, "j")
            if word == "done":
                self.check(LARGE, changed, True)
        for names in ("acegik", "ghijla"):
            word, changed = rebased(LARGE, list(names))
            if word == "done":
                self.check(LARGE, changed, True)

    def test_sheets_that_part_in_both_directions(self):
        self.check(ONE, TWO, False)
        self.check(TOTAL, TOTAL.with_row(("total", "formula", "net + tax + 1/1000")), False)
        self.check(TOTAL, TOTAL.with_row(("total", "formula", "net - tax")), False)
        # They meet in the own tables.
        self.check(ONE, ONE.with_row(("b", "formula", "2*a")), False)
        self.check(LARGE, LARGE.with_row(("l", "formula", "j - 2*d + a + 1/3")), False)

    def test_sheets_that_part_in_one_direction(self):
        """All tables of the one are tables of the other, which has more."""
        more = Sheet([("a", "input", 5), ("b", "input", 6)])
        self.assertEqual(self.check(ONE, more, False)[1], 1)
        self.assertEqual(self.check(more, ONE, False)[1], 0)
        # The own tables are tables of both.
        more = Sheet([("a", "input", 1), ("b", "input", 2)])
        self.assertEqual(self.check(ONE, more, False)[1], 1)
        point = Sheet([("b", "formula", "2"), ("a", "formula", "b - 1")])
        self.assertEqual(self.check(ONE, point, False)[1], 0)
        self.assertEqual(self.check(point, more, False)[1], 1)

    def test_the_order_of_the_table_is_that_of_its_sheet(self):
        other = Sheet([("b", "input", 2), ("a", "formula", "b - 2")])
        for first, second in ((ONE, other), (other, ONE)):
            _, which, table = same_tables(first, second)
            self.assertEqual(tuple([name for name, _ in table]), (first, second)[which].cell_names())

    def test_random_sheets(self):
        source = random.Random(43)
        counts = {True: 0, False: 0}
        while min(counts.values()) < 40:
            one = cases.random_sheet(source, source.randrange(1, 4), source.randrange(1, 4))
            word, other = rebased(one, source.sample(one.cell_names(), len(one.input_names())))
            if word == "done":
                if source.random() < 0.6:
                    name = source.choice(other.cell_names())
                    rows = [row for row in other.rows() if row[0] != name]
                    others = [each for each in other.input_names() if each != name] or ["1"]
                    text = source.choice(["2", source.choice(others), form_text(other.form_by_inputs(name))])
                    text = text if name in other.computed_names() else source.choice(["2", source.choice(others)])
                    other = Sheet([(name, "formula", text), *rows])
                same = self.is_same(one, other)
                self.check(one, other, same)
                counts[same] += 1

    def is_same(self, one, other):
        """Whether the tables are the same: as many dimensions, and some tables of the one are tables of the other."""
        return len(one.input_names()) == len(other.input_names()) and all(
            [self.numbers_fit(other, table) for table in cases.some_tables(one)])

    def test_cells_of_only_one_of_them(self):
        for one, other, name in (
            (TOTAL, PAIR, "a"), (PAIR, TOTAL, "a"), (TOTAL, Sheet(), "net"), (Sheet(), TOTAL, "net"), (ONE, PAIR, "c"),
            (PAIR, ONE, "c"), (Sheet([("b", "input", 1), ("a", "input", 1)]), Sheet([("b", "input", 1)]), "a"),
            (Sheet([("z", "input", 1), ("b", "input", 1)]), Sheet([("y", "input", 1), ("b", "input", 1)]), "y"),
        ):
            self.check_error(errors.UnlikeCells, {"name": name}, same_tables, one, other)
            self.check_error(errors.UnlikeCells, {"name": name}, same_tables, one=one, other=other)


def joint_rows(one, other):
    """The equations of both sheets as dicts of Fractions."""
    sides = [(0, cases.sides_of(one)), (1, cases.sides_of(other))]
    return {(which, name): side for which, found in sides for (_, name), side in found.items()}


def solved(rows, names):
    """The rank of the equations, and whether there is a solution: by elimination."""
    rows = list(rows)
    matrix = [[row.get(name, Fraction(0)) for name in names] for row in rows]
    full = [[*line, row.get("", Fraction(0))] for line, row in zip(matrix, rows)]
    return cases.rank(matrix), cases.rank(matrix) == cases.rank(full)


class JoinedTest(CompareCase):

    def check(self, one, other):
        before = one.rows(), other.rows()
        answer = joined(one, other)
        word, found = answer
        names = [*one.cell_names(), *[name for name in other.cell_names() if name not in one.cell_names()]]
        rows = joint_rows(one, other)
        rank, exists = solved(rows.values(), names)
        self.assertEqual(word, "done" if exists else "refused")
        if exists:
            self.check_done(one, other, found, names, rank)
        else:
            self.check_refusal(one, other, found, rows)
        self.assertEqual((one.rows(), other.rows()), before)
        self.assertEqual(joined(one=one, other=other), answer)
        return found

    def check_refusal(self, one, other, weights, rows):
        self.assertIsInstance(weights, tuple)
        keys = [key for key, _ in weights]
        self.assertEqual(keys, sorted(set(keys)))
        self.assertTrue(all(key[0].__class__ is int and number[0] != 0 for key, number in weights))
        total = cases.added(*[(Fraction(*number), rows[key]) for key, number in weights])
        self.assertTrue(list(total) == [""] and total[""] < 0)
        for value in (weights, list(weights)):
            self.assertIs(is_join_refusal(one, other, value), True)
            self.assertIs(is_join_refusal(one=one, other=other, weights=value), True)

    def check_done(self, one, other, sheet, names, rank):
        self.assertEqual(list(sheet.cell_names()), names)
        # There are no tables but those of both, and by their dimension no fewer ones.
        self.assertEqual(len(sheet.input_names()), len(names) - rank)
        for table in cases.some_tables(sheet):
            self.assertTrue(self.numbers_fit(one, table) and self.numbers_fit(other, table))
        groups = ([name for name in names if name in one.input_names()],
                  [name for name in names if name in other.input_names()], names)
        inputs = []
        for name in [each for group in groups for each in group]:
            if not cases.is_fixed(sheet, inputs, name):
                inputs.append(name)
        self.assertEqual(set(sheet.input_names()), set(inputs))
        for name, kind, content in sheet.rows():
            if kind == "input":
                self.assertEqual(content, (one if name in one.cell_names() else other).value_of(name))
            else:
                self.assertEqual(content, form_text(sheet.form_by_inputs(name)))
                self.assertEqual(sheet.form_of(name), sheet.form_by_inputs(name))

    def test_example(self):
        self.assertEqual(self.check(ONE, TWO), REFUSAL)
        self.assertEqual(joined(ONE, TWO), ("refused", REFUSAL))
        self.check(TWO, ONE)

    def test_all_cells_in_common(self):
        self.assertEqual(self.check(TOTAL, TOTAL), TOTAL)
        self.assertEqual(self.check(TOTAL, exchange(TOTAL, "tax", "total")[1]), TOTAL)
        changed = self.check(exchange(TOTAL, "tax", "total")[1], TOTAL.with_input("net", 7))
        self.assertEqual(changed.rows(), (("net", "input", (100, 1)), ("tax", "formula", "-net + total"),
                                          ("total", "input", (120, 1))))
        found = self.check(TOTAL, TOTAL.with_row(("total", "formula", "3*net")))
        self.assertEqual(found.rows(), (("net", "input", (100, 1)), ("tax", "formula", "2*net"),
                                        ("total", "formula", "3*net")))
        self.check(LARGE, exchange(LARGE, "a", "j")[1])

    def test_some_cells_in_common(self):
        other = Sheet([("fee", "input", 3), ("all", "formula", "fee + total"), ("total", "input", 5)])
        self.assertEqual(self.check(TOTAL, other).rows(), (
            ("net", "input", (100, 1)), ("tax", "input", (20, 1)), ("total", "formula", "net + tax"),
            ("fee", "input", (3, 1)), ("all", "formula", "fee + net + tax"),
        ))
        self.assertEqual(self.check(other, TOTAL).rows(), (
            ("fee", "input", (3, 1)), ("all", "formula", "fee + total"), ("total", "input", (5, 1)),
            ("net", "input", (100, 1)), ("tax", "formula", "-net + total"),
        ))

    def test_no_cells_in_common(self):
        self.assertEqual(self.check(TOTAL, PAIR).rows(), (*TOTAL.rows(), *PAIR.rows()))
        self.assertEqual(self.check(PAIR, TOTAL).rows(), (*PAIR.rows(), *TOTAL.rows()))
        self.assertEqual(self.check(CHAIN, TOTAL).rows()[0], ("d", "formula", "3*a + 5"))

    def test_sheets_without_rows(self):
        self.assertEqual(self.check(Sheet(), Sheet()), Sheet())
        self.assertEqual(self.check(TOTAL, Sheet()), TOTAL)
        self.assertEqual(self.check(Sheet(), TOTAL), TOTAL)

    def test_inputs_in_one_that_are_computed_in_the_other(self):
        other = Sheet([("a", "formula", "2*b - 4"), ("b", "input", 9)])
        self.assertEqual(self.check(ONE, other).rows(), (("a", "formula", "2"), ("b", "formula", "3")))
        self.assertEqual(self.check(other, ONE).rows(), (("a", "formula", "2"), ("b", "formula", "3")))
        other = Sheet([("c", "input", 8), ("a", "formula", "c/2")])
        self.assertEqual(self.check(ONE, other).rows(),
                         (("a", "input", (1, 1)), ("b", "formula", "a + 1"), ("c", "formula", "2*a")))
        self.assertEqual(self.check(other, ONE).rows(),
                         (("c", "input", (8, 1)), ("a", "formula", "1/2*c"), ("b", "formula", "1/2*c + 1")))

    def test_inputs_in_the_order_of_the_joined_rows(self):
        """The inputs of other are gone through in the order that their rows have in the joined sheet."""
        one = Sheet([("x", "input", 1), ("y", "formula", "x"), ("z", "formula", "x")])
        other = Sheet([("q", "input", 5), ("w", "input", 6), ("z", "input", 7), ("v", "formula", "q + w")])
        self.assertEqual(self.check(one, other).input_names(), ("x", "q", "w"))
        one = Sheet([("p", "formula", "r + s"), ("r", "input", 1), ("s", "input", 2)])
        other = Sheet([("t", "input", 4), ("s", "formula", "t + u"), ("u", "input", 3), ("p", "input", 9)])
        self.assertEqual(self.check(one, other).input_names(), ("r", "s", "t"))
        self.assertEqual(self.check(other, one).input_names(), ("t", "u", "p"))

    def test_refusals_by_way_of_several_cells(self):
        one = Sheet([("a", "input", 1), ("b", "formula", "2*a"), ("c", "formula", "b + a + 1")])
        other = Sheet([("a", "input", 1), ("c", "input", 1), ("b", "formula", "c - a")])
        found = self.check(one, other)
        self.assertEqual([key for key, _ in found], [(0, "c"), (1, "b")])
        self.check(other, one)
        # Each two of the equations agree, all of them do not.
        one = Sheet([("a", "input", 0), ("b", "input", 0), ("c", "formula", "a + b"), ("d", "formula", "a - b")])
        other = Sheet([("d", "input", 0), ("c", "formula", "d + 1"), ("b", "formula", "2")])
        self.check(one, other)
        self.check(other, one)
        other = Sheet([("c", "formula", "1"), ("b", "formula", "2"), ("a", "formula", "3"), ("x", "input", 1)])
        self.check(one, other)
        self.check(other, one)

    def test_random_sheets(self):
        source = random.Random(44)
        counts = {"done": 0, "refused": 0}
        for _ in range(300):
            one = cases.random_sheet(source, source.randrange(1, 4), source.randrange(1, 4))
            other = cases.random_sheet(source, source.randrange(1, 4), source.randrange(1, 5))
            pool = [*one.cell_names(), "x", "y", "z"]
            if len(pool) >= len(other):
                other = renamed(other, dict(zip(other.cell_names(), source.sample(pool, len(other)))))
            self.check(one, other)
            counts[joined(one, other)[0]] += 1
        self.assertGreater(min(counts.values()), 30)

    def test_large_sheets(self):
        shifted = LARGE
        for name in LARGE.computed_names():
            shifted = shifted.with_row((name, "formula", form_text(LARGE.form_by_inputs(name)) + " + a - 1"))
        found = self.check(LARGE, shifted)
        self.assertEqual(found.rows()[1], ("a", "formula", "1"))
        self.check(LARGE, shifted.with_row(("k", "formula", form_text(LARGE.form_by_inputs("k")) + " + 1")))
        names = {name: chr(ord(name) + 9) for name in LARGE.cell_names()}
        self.check(LARGE, renamed(LARGE, names))
        self.check(renamed(LARGE, names), LARGE)


def renamed(sheet, names):
    """A sheet whose cells have other names."""
    forms = {}
    for name in sheet.computed_names():
        form = sheet.form_of(name)
        for at, each in enumerate(names):
            form = substituted(form, each, cell_form("new" + chr(97 + at)))
        for at, each in enumerate(names):
            form = substituted(form, "new" + chr(97 + at), cell_form(names[each]))
        forms[name] = form_text(form)
    return Sheet([(names[name], kind, forms.get(name, content)) for name, kind, content in sheet.rows()])


class JoinRefusalTest(Case):

    def check(self, value, expected, one=ONE, other=TWO):
        with self.subTest(value=value):
            self.assertIs(is_join_refusal(one, other, value), expected)

    def test_true_ones(self):
        self.check(REFUSAL, True)
        self.check(list(REFUSAL), True)
        self.check((((0, "b"), (-LONG, 7)), ((1, "b"), (LONG, 7))), True)
        self.check((((0, "b"), (1, 1)), ((1, "b"), (-1, 1))), True, TWO, ONE)

    def test_one_thing_changed(self):
        first, second = REFUSAL
        for value in (
            REFUSAL[::-1], (first,), (second,), (*REFUSAL, second), (first, *REFUSAL), (), [],
            (((0, "b"), (1, 1)), ((1, "b"), (-1, 1))), (((0, "b"), (-1, 1)), ((1, "b"), (2, 1))),
            (((0, "b"), (-2, 2)), second), (((0, "b"), -1), second), (((0, "b"), (-1, True)), second),
            (((0, "b"), [-1, 1]), second), (((0, "b"), "-1"), second), (([0, "b"], (-1, 1)), second),
            ([(0, "b"), (-1, 1)], second), (((0, "b"), (-1, 1), 1), second), (((0, "b"),), second),
            (((False, "b"), (-1, 1)), second), (first, ((True, "b"), (1, 1))), (((0, "b", 1), (-1, 1)), second),
            (((0, "a"), (-1, 1)), second), (((0, "none"), (-1, 1)), second), (((0, None), (-1, 1)), second),
            (((0, ["b"]), (-1, 1)), second), (((0, ("b",)), (-1, 1)), second), (((2, "b"), (-1, 1)), second),
            (((-1, "b"), (-1, 1)), second), ((("0", "b"), (-1, 1)), second), (((None, "b"), (-1, 1)), second),
            (((0, "b"), (0, 1)), second), (((0, "b"), (0, 1)), ((1, "b"), (0, 1))),
            (((0, "b"), (-1, 2)), ((0, "b"), (-1, 2)), second), (first, ((1, "b"), (-1, 1)), ((1, "b"), (2, 1))),
            ((("formula", "b"), (-1, 1)), second),
            (None, second), (first, 5), ("ab", second), ((((0,), "b"), (-1, 1)), second),
        ):
            self.check(value, False)

    def test_any_value(self):
        for value in (*ODD_VALUES, {"b": 1}):
            self.check(value, False)
            self.check(value, False, Sheet(), Sheet())
        for one, other in itertools.permutations((TOTAL, PAIR, ONE), 2):
            self.check(REFUSAL, False, one, other)
        self.check((((0, "b"), (1, 1)),), False, Sheet([("b", "formula", "5")]), Sheet())

    def test_sums_that_are_no_refusals(self):
        """The cells do not cancel, or the constant is not below 0."""
        one = Sheet([("a", "input", 0), ("b", "formula", "a"), ("c", "formula", "a + 1"), ("d", "formula", "5")])
        other = Sheet([("a", "input", 0), ("b", "formula", "a"), ("c", "formula", "a - 1"), ("d", "formula", "5")])
        self.check((((0, "b"), (1, 1)), ((1, "b"), (-1, 1))), False, one, other)
        self.check((((0, "c"), (1, 1)), ((1, "c"), (-1, 1))), True, one, other)
        self.check((((0, "c"), (-1, 1)), ((1, "c"), (1, 1))), False, one, other)
        self.check((((0, "c"), (1, 1)), ((0, "d"), (1, 1)), ((1, "c"), (-1, 1))), False, one, other)
        self.check((((0, "d"), (1, 1)),), False, one, other)
        # A ratio of zero and the wrong order change no sum.
        self.check((((0, "b"), (0, 1)), ((0, "c"), (1, 1)), ((1, "c"), (-1, 1))), False, one, other)
        self.check((((0, "c"), (1, 1)), ((1, "c"), (-1, 1)), ((1, "d"), (0, 1))), False, one, other)
        self.check((((1, "c"), (-1, 1)), ((0, "c"), (1, 1))), False, one, other)
        self.check((((0, "b"), (-3, 1)), ((0, "c"), (1, 1)), ((1, "b"), (3, 1)), ((1, "c"), (-1, 1))), True, one, other)


if __name__ == "__main__":
    cases.unittest.main()
