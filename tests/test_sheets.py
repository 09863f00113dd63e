"""[14] to [17]: sheets and their tables, and [3] to [5] where these speak of them."""

import unittest

from cases import Case

from backsheet import errors
from backsheet.sheets import Sheet, is_table

EXAMPLE = (("a", "input", 3), ("b", "formula", "a*2 + 1"))
TOTALS = (
    ("total", "formula", "net + tax"), ("net", "input", 100), ("share", "formula", " tax / 4 "),
    ("tax", "input", (41, 2)), ("half", "formula", "total/2 - share"), ("fixed", "formula", "3 + net - net"),
)
LONG = 7 * 10 ** 199 + 3
HUGE = 10 ** 5000

# Values that are no numbers, no rows, no tables and no pairs of a table.
ODD_VALUES = (
    None, True, False, "", "a", "3", (), [], ((),), (2, 4), (1, 0), (1, -2), (1, 2, 3), [1, 2], (1,), ("a", 3),
    ["a", 3],
    (True, 1), (1, True), ("1", "2"), (None, None), [[("a", 3)]], (("a",),),
)


class SheetTest(Case):

    def check_rows(self, rows, kind, **fields):
        for passed in (tuple(rows), list(rows)):
            self.check_error(kind, fields, Sheet, passed)


class MakingSheetsTest(SheetTest):

    def test_rows_are_returned_with_ratios_and_the_texts_as_they_were_passed(self):
        rows = Sheet(TOTALS).rows()
        self.assertEqual(rows, (
            ("total", "formula", "net + tax"), ("net", "input", (100, 1)), ("share", "formula", " tax / 4 "),
            ("tax", "input", (41, 2)), ("half", "formula", "total/2 - share"), ("fixed", "formula", "3 + net - net"),
        ))
        self.assertIs(rows.__class__, tuple)
        self.assertIs(Sheet(list(TOTALS)).rows().__class__, tuple)
        self.assertEqual(Sheet(rows=TOTALS).rows(), rows)

    def test_no_rows(self):
        for sheet in (Sheet(), Sheet(()), Sheet([])):
            self.assertEqual(sheet.rows(), ())
            self.assertEqual(sheet.cell_names(), ())
            self.assertEqual(sheet.own_table(), ())
            self.assertEqual(len(sheet), 0)

    def test_a_list_that_is_changed_afterwards(self):
        rows = list(TOTALS)
        sheet = Sheet(rows)
        self.assertEqual(rows, list(TOTALS))
        rows.append(("more", "input", 1))
        rows[0] = ("total", "input", 5)
        self.assertEqual(sheet, Sheet(TOTALS))
        self.assertEqual(len(sheet), 6)

    def test_rows_that_are_no_rows(self):
        for value in ODD_VALUES:
            self.check_rows([value], errors.InvalidRow, index=0)
            self.check_rows([*EXAMPLE, value], errors.InvalidRow, index=2)
            if not isinstance(value, str):
                self.check_rows([(value, "input", 3)], errors.InvalidRow, index=0)
                self.check_rows([(value, "formula", "3")], errors.InvalidRow, index=0)
                self.check_rows([("a", "formula", value)], errors.InvalidRow, index=0)
            self.check_rows([("a", value, 3)], errors.InvalidRow, index=0)
            self.check_rows([("a", "input", value)], errors.InvalidRow, index=0)
        for row in (
            ["a", "input", 3], ("a", "input"), ("a", "input", 3, 4), ("a", "Input", 3), ("a", "formula", 3),
            ("a", "input", "3"), ("a", "formula", None), ("a", 3), ("a", "cell", "3"), ("a", "", 3),
        ):
            self.check_rows([*EXAMPLE, row, None], errors.InvalidRow, index=2)

    def test_names_that_are_none(self):
        for name in ("sum", "average", "", "abcdefghi", "A", "a1", "a b", " a", "a\n", "*"):
            self.check_rows([(name, "input", 3)], errors.InvalidName, name=name)
            self.check_rows([(name, "formula", "3")], errors.InvalidName, name=name)
            self.check_rows([(name, "formula", "?")], errors.InvalidName, name=name)
            self.check_rows([(name, "input", "3")], errors.InvalidRow, index=0)

    def test_a_name_twice(self):
        self.check_rows([*EXAMPLE, ("a", "input", 3)], errors.DuplicateCell, name="a")
        self.check_rows([*EXAMPLE, ("b", "input", 3), ("a", "input", 3)], errors.DuplicateCell, name="b")
        self.check_rows([*EXAMPLE, ("b", "formula", "?")], errors.DuplicateCell, name="b")
        self.check_rows([*EXAMPLE, ("a", "input", True)], errors.InvalidRow, index=2)
        self.check_rows([("x", "formula", "y"), ("x", "formula", "x")], errors.DuplicateCell, name="x")

    def test_bad_formulas(self):
        for text, word, position in (
            ("", "syntax", 0), ("a +", "syntax", 3), ("a + ?", "syntax", 4), ("a * a", "linear", 2),
            ("1 + 2 / a", "linear", 6), ("a / (1 - 1)", "zero", 2), ("sum(1, 1/0)", "zero", 8), ("none ?", "syntax", 5),
        ):
            fields = {"name": "b", "word": word, "position": position}
            self.check_rows([("a", "input", 3), ("b", "formula", text)], errors.BadFormula, **fields)
            # A later row, a cell that is not there and a circle come behind it.
            self.check_rows([("a", "formula", "zz"), ("b", "formula", text), None], errors.BadFormula, **fields)
            self.check_rows([("a", "formula", "a"), ("b", "formula", text)], errors.BadFormula, **fields)

    def test_the_first_row_with_a_fault(self):
        faults = (
            (None, errors.InvalidRow, {"index": 1}), (("A", "input", 3), errors.InvalidName, {"name": "A"}),
            (("a", "input", 3), errors.DuplicateCell, {"name": "a"}),
            (("b", "formula", "+"), errors.BadFormula, {"name": "b", "word": "syntax", "position": 0}),
        )
        for row, kind, fields in faults:
            for other, _, _ in faults:
                self.check_rows([("a", "input", 3), row, other, ("c", "formula", "d")], kind, **fields)

    def test_cells_that_are_not_there(self):
        self.check_rows([("a", "formula", "b")], errors.UnknownCell, name="b")
        self.check_rows([("a", "formula", "z + y + a"), ("b", "formula", "c")], errors.UnknownCell, name="y")
        self.check_rows([("c", "formula", "z"), ("b", "formula", "a")], errors.UnknownCell, name="z")
        # They come ahead of circles, also of those of earlier rows.
        self.check_rows([("a", "formula", "a"), ("b", "formula", "c")], errors.UnknownCell, name="c")
        self.check_rows([("a", "formula", "2 - a + none")], errors.UnknownCell, name="none")

    def test_cells_that_have_cancelled_do_not_count(self):
        sheet = Sheet([("a", "formula", "none - none + 2"), ("b", "formula", "0*(b + gone) + a"), ("c", "input", 1),
                       ("d", "formula", "e + c"), ("e", "formula", "2*d - 2*d + c")])
        self.assertEqual(sheet.own_table(), (("a", (2, 1)), ("b", (2, 1)), ("c", (1, 1)), ("d", (2, 1)), ("e", (1, 1))))
        self.assertEqual(sheet.form_of("a"), ((), (2, 1)))

    def test_circles(self):
        self.check_rows([("a", "formula", "a")], errors.CircularCell, name="a")
        self.check_rows([("a", "formula", "2*a + 1")], errors.CircularCell, name="a")
        self.check_rows([("a", "formula", "b"), ("b", "formula", "a")], errors.CircularCell, name="a")
        self.check_rows([("b", "formula", "a"), ("a", "formula", "b")], errors.CircularCell, name="b")
        # x leads to the circle, but does not lie on it.
        self.check_rows([("x", "formula", "c"), ("i", "input", 1), ("b", "formula", "c"), ("c", "formula", "d + i"),
                         ("d", "formula", "c")], errors.CircularCell, name="c")
        self.check_rows([("x", "formula", "y"), ("y", "formula", "y"), ("b", "formula", "b")],
                        errors.CircularCell, name="y")
        # The first one by the rows, not by the names.
        self.check_rows([("z", "formula", "m"), ("m", "formula", "b"), ("b", "formula", "z")],
                        errors.CircularCell, name="z")
        # Two cells with the difference of one another, although the values would cancel.
        self.check_rows([("a", "formula", "b + c"), ("b", "formula", "a - c"), ("c", "input", 1)],
                        errors.CircularCell, name="a")

    def test_formulas_that_name_later_rows_or_one_cell_in_several_ways(self):
        sheet = Sheet([("d", "formula", "b + c"), ("b", "formula", "a + c"), ("c", "formula", "2*a"),
            ("a", "input", 1)])
        self.assertEqual(sheet.own_table(), (("d", (5, 1)), ("b", (3, 1)), ("c", (2, 1)), ("a", (1, 1))))

    def test_long_numbers_and_many_cells(self):
        rows = [("a", "input", (LONG, 10 ** 200 - 1))]
        for letter, ahead in zip("bcdefghijklmnop", "abcdefghijklmno"):
            rows.append((letter, "formula", f"{ahead} * {LONG % 10 ** 150} + {ahead}"))
        sheet = Sheet(list(reversed(rows)))
        self.assertEqual(sheet.drivers_of("p"), ("a",))
        self.assertEqual(sheet.value_of("b")[1], 10 ** 200 - 1)
        self.assertTrue(is_table(sheet, sheet.own_table()))
        self.assertEqual(Sheet([("a", "input", (HUGE, 3))]).value_of("a"), (HUGE, 3))


class AskingSheetsTest(SheetTest):

    def setUp(self):
        self.sheet = Sheet(TOTALS)

    def test_names(self):
        self.assertEqual(self.sheet.cell_names(), ("total", "net", "share", "tax", "half", "fixed"))
        self.assertEqual(self.sheet.input_names(), ("net", "tax"))
        self.assertEqual(self.sheet.computed_names(), ("total", "share", "half", "fixed"))
        self.assertEqual(len(self.sheet), 6)

    def test_form_of(self):
        for name, form in (
            ("net", ((("net", (1, 1)),), (0, 1))), ("total", ((("net", (1, 1)), ("tax", (1, 1))), (0, 1))),
            ("half", ((("share", (-1, 1)), ("total", (1, 2))), (0, 1))), ("fixed", ((), (3, 1))),
        ):
            self.assertEqual(self.sheet.form_of(name), form)
            self.assertEqual(self.sheet.form_of(name=name), form)

    def test_form_by_inputs_and_drivers(self):
        for name, form, drivers in (
            ("tax", ((("tax", (1, 1)),), (0, 1)), ("tax",)), ("fixed", ((), (3, 1)), ()),
            ("half", ((("net", (1, 2)), ("tax", (1, 4))), (0, 1)), ("net", "tax")),
            ("share", ((("tax", (1, 4)),), (0, 1)), ("tax",)),
        ):
            self.assertEqual(self.sheet.form_by_inputs(name), form)
            self.assertEqual(self.sheet.form_by_inputs(name=name), form)
            self.assertEqual(self.sheet.drivers_of(name), drivers)
            self.assertEqual(self.sheet.drivers_of(name=name), drivers)

    def test_inputs_that_cancel_behind_other_cells_are_no_drivers(self):
        sheet = Sheet([("b", "input", 2), ("a", "input", 1), ("c", "formula", "b + a"), ("d", "formula", "c - b")])
        self.assertEqual(sheet.form_by_inputs("d"), ((("a", (1, 1)),), (0, 1)))
        self.assertEqual(sheet.drivers_of("c"), ("a", "b"))
        self.assertEqual(sheet.users_of("b"), ("c", "d"))

    def test_users_of(self):
        for name, users in (
            ("net", ("total",)), ("tax", ("total", "share")), ("total", ("half",)), ("half", ()), ("fixed", ()),
        ):
            self.assertEqual(self.sheet.users_of(name), users)
            self.assertEqual(self.sheet.users_of(name=name), users)

    def test_values(self):
        self.assertEqual(self.sheet.own_table(), (
            ("total", (241, 2)), ("net", (100, 1)), ("share", (41, 8)), ("tax", (41, 2)), ("half", (441, 8)),
            ("fixed", (3, 1)),
        ))
        for name, number in self.sheet.own_table():
            self.assertEqual(self.sheet.value_of(name), number)
            self.assertEqual(self.sheet.value_of(name=name), number)

    def test_unknown_names(self):
        for name in ("none", "", "sum", "TOTAL", "net ", "not a name", "ne\nt", "abcdefghijk"):
            for method in (
                self.sheet.form_of, self.sheet.form_by_inputs, self.sheet.drivers_of, self.sheet.users_of,
                self.sheet.value_of, self.sheet.without_cell,
            ):
                self.check_error(errors.UnknownCell, {"name": name}, method, name)
            self.check_error(errors.UnknownCell, {"name": name}, self.sheet.with_input, name, None)

    def test_equal_sheets(self):
        same = Sheet([(*row[:2], (100, 1)) if row[2] == 100 else row for row in TOTALS])
        self.assertTrue(self.sheet == same)
        self.assertFalse(self.sheet != same)
        others = (
            Sheet(TOTALS[:-1]), Sheet([*TOTALS[1:], TOTALS[0]]), self.sheet.with_input("net", 99), Sheet(),
            self.sheet.with_row(("share", "formula", "tax / 4")), self.sheet.with_row(("fixed", "input", 3)),
            self.sheet.rows(), list(self.sheet.rows()), self.sheet.own_table(), None, "sheet", 6,
        )
        for other in others:
            self.assertFalse(self.sheet == other)
            self.assertTrue(self.sheet != other)


class TablesTest(SheetTest):

    def setUp(self):
        self.sheet = Sheet(EXAMPLE)

    def test_example(self):
        self.assertEqual(self.sheet.own_table(), (("a", (3, 1)), ("b", (7, 1))))

    def test_tables(self):
        for table in (
            (("a", (3, 1)), ("b", (7, 1))), (("a", 3), ("b", 7)), [("a", (0, 1)), ("b", 1)], (("a", (1, 2)), ("b", 2)),
            [("a", (-1, 3)), ("b", (1, 3))], (("a", LONG), ("b", (2 * LONG + 1, 1))),
        ):
            self.assertIs(is_table(self.sheet, table), True)
            self.assertIs(is_table(sheet=self.sheet, value=table), True)
        self.assertIs(is_table(Sheet(), ()), True)
        self.assertIs(is_table(Sheet(), []), True)

    def test_no_tables(self):
        for value in (
            *ODD_VALUES, (("b", 7), ("a", 3)), (["a", 3], ("b", 7)), (("a", 3), ["b", 7]), (("a", 3), ("b", (15, 2))),
            (("a", 3), ("b", 8)), (("a", 3),), (("a", 3), ("b", 7), ("c", 1)), (("a", 3), ("b", 7), ("b", 7)),
            (("a", 3), ("a", 3)), (("a", 3, 3), ("b", 7)), (("a",), ("b", 7)), (("a", "3"), ("b", 7)),
            (("a", None), ("b", 7)), (("a", 0), ("b", True)), (("a", True), ("b", 3)), (("a", [3, 1]), ("b", 7)),
            (("a", (6, 2)), ("b", 7)), (("a", (3, 1)), ("b", (14, 2))), ((("a",), 3), ("b", 7)), "ab", ("a3", "b7"),
            {"a": 3, "b": 7}, ((1, 3), ("b", 7)), (("A", 3), ("b", 7)),
        ):
            with self.subTest(value=value):
                self.assertIs(is_table(self.sheet, value), False)
        self.assertIs(is_table(Sheet(), (("a", 3),)), False)
        self.assertIs(is_table(Sheet(), None), False)

    def test_every_computed_cell_must_fit(self):
        sheet = Sheet(TOTALS)
        table = list(sheet.own_table())
        self.assertTrue(is_table(sheet, table))
        for at, (name, (top, bottom)) in enumerate(table):
            changed = table[:at] + [(name, (top + bottom, bottom))] + table[at + 1:]
            self.assertFalse(is_table(sheet, changed))


class OtherSheetsTest(SheetTest):

    def setUp(self):
        self.sheet = Sheet(TOTALS)

    def tearDown(self):
        # No method changes the sheet.
        self.assertEqual(self.sheet, Sheet(TOTALS))
        self.assertEqual(self.sheet.own_table(), Sheet(TOTALS).own_table())

    def test_with_input(self):
        changed = self.sheet.with_input("net", (1, 2))
        self.assertEqual(changed.rows(), (TOTALS[0], ("net", "input", (1, 2)), *TOTALS[2:]))
        self.assertEqual(changed.value_of("total"), (21, 1))
        self.assertEqual(self.sheet.with_input(name="net", number=7).value_of("net"), (7, 1))

    def test_with_input_refuses(self):
        for value in ODD_VALUES:
            self.check_error(errors.InvalidNumber, {"value": value}, self.sheet.with_input, "net", value)
            self.check_error(errors.NotInput, {"name": "total"}, self.sheet.with_input, "total", value)
        self.check_error(errors.NotInput, {"name": "fixed"}, self.sheet.with_input, "fixed", 3)

    def test_with_table(self):
        table = (("total", 3), ("net", 1), ("share", (1, 2)), ("tax", (2, 1)), ("half", 1), ("fixed", 3))
        for passed in (table, list(table)):
            changed = self.sheet.with_table(passed)
            self.assertEqual(changed, self.sheet.with_input("net", 1).with_input("tax", 2))
            self.assertEqual(changed.rows()[2], ("share", "formula", " tax / 4 "))
            self.assertEqual(dict(changed.own_table())["half"], (1, 1))
        self.assertEqual(self.sheet.with_table(table=self.sheet.own_table()), self.sheet)

    def test_with_table_refuses(self):
        own = self.sheet.own_table()
        for value in (*ODD_VALUES, own[1:], own[::-1], (("total", (121, 1)), *own[1:])):
            self.check_error(errors.InvalidTable, {"value": value}, self.sheet.with_table, value)

    def test_with_row_of_a_cell_that_is_there(self):
        changed = self.sheet.with_row(("share", "input", 9))
        self.assertEqual(changed.rows(), (*self.sheet.rows()[:2], ("share", "input", (9, 1)), *self.sheet.rows()[3:]))
        changed = self.sheet.with_row(row=("net", "formula", "tax*3"))
        self.assertEqual(changed.cell_names(), self.sheet.cell_names())
        self.assertEqual(changed.value_of("total"), (82, 1))

    def test_with_row_of_a_new_cell(self):
        changed = self.sheet.with_row(("more", "formula", "total + 1"))
        self.assertEqual(changed.rows(), (*self.sheet.rows(), ("more", "formula", "total + 1")))
        self.assertEqual(Sheet().with_row(("a", "input", 3)).rows(), (("a", "input", (3, 1)),))

    def test_with_row_refuses(self):
        for row, index in (
            (("total", "input", None), 0), (("tax", 3), 3), (("tax",), 3), (("fixed", "formula", 3), 5),
            (("more", "input", None), 6), (("more",), 6), (["tax", "input", 3], 6), ((["tax"], "input", 3), 6),
            ((1, "input", 3), 6), ((), 6), (None, 6), ("tax", 6), (["tax"], 6), (True, 6), ((("tax",), "input", 1), 6),
            (("", "input"), 6), (("tax", "input", 3, 4), 3), (("sum", "input", True), 6),
        ):
            with self.subTest(row=row):
                self.check_error(errors.InvalidRow, {"index": index}, self.sheet.with_row, row)
        for row, kind, fields in (
            (("sum", "input", 3), errors.InvalidName, {"name": "sum"}),
            (("new", "formula", "1 +"), errors.BadFormula, {"name": "new", "word": "syntax", "position": 3}),
            (("net", "formula", "x"), errors.UnknownCell, {"name": "x"}),
            (("net", "formula", "half"), errors.CircularCell, {"name": "total"}),
            (("tax", "formula", "share"), errors.CircularCell, {"name": "share"}),
        ):
            self.check_error(kind, fields, self.sheet.with_row, row)

    def test_without_cell(self):
        changed = self.sheet.without_cell("half")
        self.assertEqual(changed.rows(), (*self.sheet.rows()[:4], self.sheet.rows()[5]))
        self.assertEqual(self.sheet.without_cell(name="fixed").cell_names(), self.sheet.cell_names()[:5])
        self.assertEqual(Sheet([("a", "input", 3)]).without_cell("a"), Sheet())

    def test_without_cell_of_a_cell_in_use(self):
        for name, user in (("tax", "total"), ("net", "total"), ("share", "half"), ("total", "half")):
            self.check_error(errors.CellInUse, {"name": name, "user": user}, self.sheet.without_cell, name)


if __name__ == "__main__":
    unittest.main()
