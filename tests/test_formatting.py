"""[51]: texts of tables, sheets, limits, weights and desks, there and back."""

import random
import re

import cases
from cases import LARGE, LONG, PAIR, TOTAL, Case

from backsheet import errors
from backsheet.changes import solve
from backsheet.conditions import is_refusal
from backsheet.desk import Desk
from backsheet.formatting import (
    desk_text, limits_text, read_desk, read_limits, read_sheet, read_table, read_weights, sheet_text, table_text,
    weights_text,
)
from backsheet.sheets import Sheet

FIRST = Sheet([("a", "input", 3), ("b", "input", (-1, 2)), ("total", "formula", "a + b")])
NAME = r"(?!(?:sum|average)(?![a-z]))([a-z]{1,8})"
NUMBER = r"(-?[0-9]+(?:\.[0-9]+|/0*[1-9][0-9]*)?)"
LIMIT = rf"{NAME}(?: from {NUMBER})?(?: to {NUMBER})?"
PARTS = {
    read_table: rf"{NAME} = {NUMBER}",
    read_limits: LIMIT,
    read_weights: rf"{NUMBER} (formula|held|high|low|wish) {NAME}",
}
ROW = rf"input {NAME} = {NUMBER}|cell {NAME} = ([ -~]+)"
HELD = rf"held {NAME}(, {NAME})*"
LIMITS = rf"limits {LIMIT}(, {LIMIT})*"

NO_NUMBERS = ("", "-", "+1", " 1", "1 ", "1.", ".5", "1/0", "1/00", "1/-2", "1/", "/2", "1.5/2", "1/2/3", "--1", "- 1",
              "1e3", "a", "0x1", "1_0", "1\n", "(1, 2)", "None")
NO_NAMES = ("", "sum", "average", "A", "aB", "abcdefghi", "a1", "a_b", " a", "a ", "a\n", "-", "1")
NUMBERS = (("3", (3, 1)), ("-3", (-3, 1)), ("007", (7, 1)), ("-0", (0, 1)), ("2.50", (5, 2)), ("-2.50", (-5, 2)),
           ("6/4", (3, 2)), ("-0/5", (0, 1)), ("10/005", (2, 1)), ("0.125", (1, 8)))


def changed_texts(text):
    """A text with one character taken out, put in, or another in its place, or two parts in another order."""
    for at in range(len(text) + 1):
        for put in (" ", ",", "\n", "-", "a", "1", "=", "/", ".", ", ", "to", ""):
            yield text[:at] + put + text[at:]
            yield text[:at] + put + text[at + 1:]
    for cut in (", ", " ", "\n"):
        words = text.split(cut)
        for at in range(len(words)):
            yield cut.join(words[:at] + words[at + 1:])
            yield cut.join(words[:at] + words[at:at + 1] + words[at:])
            yield cut.join(words[at:] + words[:at])


def first_fault(pattern, parts):
    """The first part that does not have the form of a pattern, or None."""
    for at, part in enumerate(parts):
        if not re.fullmatch(pattern, part):
            return at
    return None


class TextCase(Case):

    def check_bad(self, call, text, at):
        with self.subTest(text=text):
            self.check_error(errors.BadText, {"at": at}, call, text)
            self.check_error(errors.BadText, {"at": at}, call, text=text)

    def check_parts(self, call, good):
        """Good texts, with anything changed, are read if each part has its form; else the first part is told."""
        bad = 0
        for text in good:
            for changed in changed_texts(text):
                parts = changed.split(", ") if changed else []
                at = first_fault(PARTS[call], parts)
                if at is None:
                    self.assertEqual(len(call(changed)), len(parts))
                else:
                    self.check_bad(call, changed, at)
                    bad += 1
        self.assertGreater(bad, 100)


class TableTest(TextCase):

    def test_there_and_back(self):
        for sheet in (TOTAL, FIRST, PAIR, LARGE, Sheet(), FIRST.with_input("a", (LONG, 10 ** 199 + 1))):
            table = sheet.own_table()
            text = table_text(table)
            self.assertEqual(read_table(text), table)
            self.assertEqual(read_table(text=text), table)
            self.assertEqual(table_text(table=list(table)), text)
        self.assertEqual(table_text(FIRST.own_table()), "a = 3, b = -1/2, total = 5/2")
        self.assertEqual(table_text((("a", 3), ("b", (1, 2)))), "a = 3, b = 1/2")
        self.assertEqual(table_text([("a", -3)]), "a = -3")
        self.assertEqual((table_text(()), table_text([]), read_table("")), ("", "", ()))

    def test_numbers_names_and_order(self):
        for text, number in NUMBERS:
            self.assertEqual(read_table("b = " + text + ", a = 1"), (("b", number), ("a", (1, 1))))
        self.assertEqual(read_table("a = 1, a = 2, a = 1"), (("a", (1, 1)), ("a", (2, 1)), ("a", (1, 1))))
        self.assertEqual(read_table("sums = 1"), (("sums", (1, 1)),))
        digits = "9" * 5000
        self.assertEqual(table_text(read_table("a = 1/" + digits)), "a = 1/" + digits)

    def test_parts_that_do_not_have_their_form(self):
        for part in (*["a = " + text for text in NO_NUMBERS], *[name + " = 1" for name in NO_NAMES], "", "a", "a=1",
                     "a = 1,b = 2", "a  = 1", "a =  1", "a = 1 = 2", "= 1", "a 1", "a := 1", " ", ","):
            for text, at in ((part + ", b = 1", 0), ("b = 1, " + part, 1), ("b = 1, b = 2, " + part + ", ?", 2)):
                self.check_bad(read_table, text, at)
        self.check_bad(read_table, "a = 1, ", 1)
        self.check_bad(read_table, ", ", 0)
        self.check_bad(read_table, " ", 0)

    def test_texts_with_one_thing_changed(self):
        self.check_parts(read_table, ["a = 3", "net = -1/2, tax = 2.50, a = 0"])


class SheetTest(TextCase):

    def test_there_and_back(self):
        spaced = Sheet([("a", "formula", "  b +  2 "), ("b", "input", (-7, 3)), ("c", "formula", "sum(a, b)/3")])
        for sheet in (TOTAL, FIRST, LARGE, Sheet(), spaced):
            text = sheet_text(sheet)
            self.assertEqual(read_sheet(text), sheet)
            self.assertEqual(read_sheet(text=text).rows(), sheet.rows())
            self.assertEqual(sheet_text(sheet=sheet), text)
        self.assertEqual(sheet_text(FIRST), "input a = 3\ninput b = -1/2\ncell total = a + b")
        self.assertEqual(sheet_text(spaced), "cell a =   b +  2 \ninput b = -7/3\ncell c = sum(a, b)/3")
        self.assertEqual(sheet_text(Sheet()), "")
        self.assertEqual(read_sheet(""), Sheet())

    def test_numbers(self):
        for text, number in NUMBERS:
            self.assertEqual(read_sheet("input a = " + text).rows(), (("a", "input", number),))

    def test_lines_that_do_not_have_their_form(self):
        for line in (*["input a = " + text for text in NO_NUMBERS if "\n" not in text],
                     *["input " + name + " = 1" for name in NO_NAMES if "\n" not in name],
                     *["cell " + name + " = 1" for name in NO_NAMES if "\n" not in name],
                     "", "a", "input", "cell", "input ", "input a", "input a =", "cell a =", "cell a = ", "cell a=1",
                     "inputs a = 1", "Input a = 1", " input a = 1", "input  a = 1", "input a  = 1", "cell  a = 1",
                     "cell a  = 1", "cells a = 1", "a = 1", "held a", "limits a", "output a = 1", "input a = b"):
            for text, at in ((line + "\ninput b = 1", 0), ("input b = 1\n" + line, 1),
                             ("cell b = ((\ncell b = 1\n" + line + "\n?", 2)):
                self.check_bad(read_sheet, text, at)
        self.check_bad(read_sheet, "input a = 3\n", 1)
        self.check_bad(read_sheet, "\ninput a = 3", 0)
        self.check_bad(read_sheet, "\n", 0)
        self.check_bad(read_sheet, "input sum = 3", 0)

    def test_formulas_of_any_characters(self):
        for formula, position in ((" ", 1), ("   ", 3), (" = ", 1), ("a = b", 2), ("?", 0), ("input a = 3", 8)):
            fields = {"name": "x", "word": "syntax", "position": position}
            self.check_error(errors.BadFormula, fields, read_sheet, "input a = 1\ncell x = " + formula)
        self.assertEqual(read_sheet("cell x =  1 ").rows(), (("x", "formula", " 1 "),))

    def test_the_exceptions_of_rows_behind_bad_text(self):
        for text, kind, fields in (
            ("input a = 1\ncell a = (", errors.DuplicateCell, {"name": "a"}),
            ("cell a = 2*b*b\ncell a = 1", errors.BadFormula, {"name": "a", "word": "linear", "position": 3}),
            ("cell a = b/0\ncell a = 1", errors.BadFormula, {"name": "a", "word": "zero", "position": 1}),
            ("cell a = b\ncell c = a + d", errors.UnknownCell, {"name": "b"}),
            ("cell a = c\ncell c = a", errors.CircularCell, {"name": "a"}),
        ):
            self.check_error(kind, fields, read_sheet, text)
            self.check_error(kind, fields, read_desk, text)
            self.check_error(kind, fields, read_desk, text + "\nheld none\nlimits a from 2 to 1")
            self.check_bad(read_sheet, text + "\n", 2)
            self.check_bad(read_desk, text + "\nheld ", 2)
        self.check_error(errors.CircularCell, {"name": "sums"}, read_sheet, "cell sums = sums")

    def test_texts_with_one_thing_changed(self):
        bad = 0
        for changed in changed_texts("input net = 5/2\ncell all = net*2"):
            at = first_fault(ROW, changed.split("\n") if changed else [])
            if at is None:
                try:
                    self.assertEqual(sheet_text(read_sheet(changed)).split("\n")[0][:4], changed[:4])
                except (errors.BadFormula, errors.UnknownCell, errors.DuplicateCell, errors.CircularCell):
                    pass
            else:
                self.check_bad(read_sheet, changed, at)
                bad += 1
        self.assertGreater(bad, 100)


class LimitsTest(TextCase):

    def test_there_and_back(self):
        limits = (("a", (0, 1), (10, 1)), ("b", (0, 1), None), ("c", None, (10, 1)), ("d", None, None))
        text = "a from 0 to 10, b from 0, c to 10, d"
        self.assertEqual(limits_text(limits), text)
        self.assertEqual(limits_text(limits=limits), text)
        self.assertEqual(read_limits(text), limits)
        self.assertEqual(read_limits(text=text), limits)
        self.assertEqual((limits_text(()), read_limits("")), ("", ()))
        for each in limits:
            self.assertEqual(read_limits(limits_text((each,))), (each,))
        limits = (("net", (-1, LONG), (LONG, 2)),)
        self.assertEqual(read_limits(limits_text(limits)), limits)

    def test_cells_with_the_names_of_words(self):
        for text, limits in (
            ("from", ("from", None, None)), ("to", ("to", None, None)), ("to to 3", ("to", None, (3, 1))),
            ("from from 3 to 4", ("from", (3, 1), (4, 1))), ("from to 3", ("from", None, (3, 1))),
            ("held from 1", ("held", (1, 1), None)), ("limits", ("limits", None, None)),
        ):
            self.assertEqual(read_limits(text), (limits,))
            self.assertEqual(limits_text((limits,)), text)

    def test_what_is_not_checked(self):
        self.assertEqual(read_limits("b from 2 to 1, a, b"),
                         (("b", (2, 1), (1, 1)), ("a", None, None), ("b", None, None)))
        for text, number in NUMBERS:
            self.assertEqual(read_limits("a from " + text + " to " + text), (("a", number, number),))

    def test_parts_that_do_not_have_their_form(self):
        for part in (
            *["a from " + text for text in NO_NUMBERS], *["a from 1 to " + text for text in NO_NUMBERS],
            *["a to " + text for text in NO_NUMBERS], *[name + " from 1" for name in NO_NAMES], *NO_NAMES,
            "a from", "a to", "a from 1 to", "a to 1 from 2", "a to 2 from 1", "a from 1 from 2", "a to 1 to 2",
            "a 1", "a 1 2", "a from 1 to 2 to 3", "a from 1 2", "a from to", "a  from 1", "a from  1", "a from 1  to 2",
            "from 1", "to 1 to", "a From 1", "a from 1 to 2 ", "a from 1,b",
        ):
            for text, at in ((part + ", b", 0), ("b, " + part, 1), ("b, b to 0, " + part + ", ?", 2)):
                self.check_bad(read_limits, text, at)
        self.check_bad(read_limits, "a, ", 1)
        self.check_bad(read_limits, "a\nb", 0)

    def test_texts_with_one_thing_changed(self):
        self.check_parts(read_limits, ["a", "net from -1/2 to 0.5", "a from 3, b to 2, c"])


class WeightsTest(TextCase):

    def test_there_and_back(self):
        limits = [("net", 0, 105), ("tax", 0, 28)]
        _, weights = solve(TOTAL, [("total", 134)], limits=limits)
        text = weights_text(weights)
        self.assertEqual(read_weights(text), weights)
        self.assertEqual(read_weights(text=text), weights)
        self.assertEqual(weights_text(weights=list(weights)), text)
        self.assertIs(is_refusal(TOTAL, read_weights(text), wishes=[("total", 134)], limits=limits), True)
        weights = ((("formula", "total"), (-1, 1)), (("wish", "total"), (1, 1)))
        self.assertEqual(weights_text(weights), "-1 formula total, 1 wish total")
        words = ("formula", "held", "high", "low", "wish")
        weights = tuple([((word, "wish"), (at + 1, LONG)) for at, word in enumerate(words)])
        self.assertEqual(read_weights(weights_text(weights)), weights)
        self.assertEqual((weights_text(()), weights_text([]), read_weights("")), ("", "", ()))

    def test_what_is_not_checked(self):
        self.assertEqual(read_weights("0 wish a, -1 low b, 1 high a, -1 low b"), (
            (("wish", "a"), (0, 1)), (("low", "b"), (-1, 1)), (("high", "a"), (1, 1)), (("low", "b"), (-1, 1))))
        for text, number in NUMBERS:
            self.assertEqual(read_weights(text + " held a"), ((("held", "a"), number),))

    def test_parts_that_do_not_have_their_form(self):
        for part in (
            *[text + " wish a" for text in NO_NUMBERS], *["1 wish " + name for name in NO_NAMES],
            *["1 " + word + " a" for word in ("", "wishes", "Wish", "limit", "cell", "input", "formula\n", "a", "own")],
            "", "1", "1 wish", "wish a", "1 wish a b", "1  wish a", "1 wish  a", "1 wish a ", " 1 wish a", "1 a wish",
            "a wish 1", "1 2 wish a",
        ):
            texts = (part + ", 1 low b", "1 low b, " + part, "1 low b, 2 low b, " + part + ", ?")
            for at, text in enumerate(texts):
                self.check_bad(read_weights, text, at)
        self.check_bad(read_weights, "1 low b, ", 1)

    def test_texts_with_one_thing_changed(self):
        self.check_parts(read_weights, ["1 wish a", "-1/2 formula total, 2.5 high to, 3 held b"])


class DeskTest(TextCase):

    ROWS = "input a = 3\ninput b = -1/2\ncell total = a + b"

    def check(self, text, held, limits, again=None):
        desk = read_desk(text)
        self.assertIsInstance(desk, Desk)
        self.assertEqual(read_desk(text=text), desk)
        self.assertEqual((desk.held_cells(), desk.present_limits()), (held, limits))
        self.assertEqual((desk.mark_words(), desk.history(), len(desk)), ((), (), 0))
        self.check_error(errors.NothingToUndo, {}, desk.undo)
        self.check_error(errors.NothingToRedo, {}, desk.redo)
        self.assertEqual(desk_text(desk), text if again is None else again)
        self.assertEqual(desk_text(desk=desk), desk_text(desk))
        self.assertEqual(read_desk(desk_text(desk)), desk)
        return desk

    def test_there_and_back(self):
        a = ("a", (0, 1), None)
        total = ("total", None, None)
        self.check("", (), ())
        self.assertEqual(self.check(self.ROWS, (), ()).present_sheet(), FIRST)
        self.check(self.ROWS + "\nheld a", ("a",), ())
        self.check(self.ROWS + "\nheld a, total", ("a", "total"), ())
        self.check(self.ROWS + "\nlimits a from 0, total", (), (a, total))
        self.check(self.ROWS + "\nheld b\nlimits a from 0", ("b",), (a,))
        desk = Desk(LARGE)
        for name in "lae":
            desk.hold(name)
            desk.limit(name, desk.value_of(name), None)
        desk.mark("m")
        self.assertEqual(read_desk(desk_text(desk)), desk)
        self.assertEqual(desk_text(Desk(Sheet())), "")

    def test_any_order_and_names_twice(self):
        self.check(self.ROWS + "\nheld total, a, total, a", ("a", "total"), (), self.ROWS + "\nheld a, total")
        self.check(self.ROWS + "\nlimits total, b to 0, a from 6/4 to 3.0", (),
                   (("a", (3, 2), (3, 1)), ("b", None, (0, 1)), ("total", None, None)),
                   self.ROWS + "\nlimits a from 3/2 to 3, b to 0, total")
        text = "cell total =  b + a\ninput b = 1\ninput a = 2"
        self.check(text, (), ())

    def test_cells_with_the_names_of_words(self):
        text = "input held = 1\ninput limits = 2\ncell cell = held\nheld cell, held\nlimits held to 1, limits"
        self.check(text, ("cell", "held"), (("held", None, (1, 1)), ("limits", None, None)))

    def test_lines_that_cannot_stand_where_they_are(self):
        rows, held, limits = self.ROWS, "held a", "limits a from 0"
        for lines, at in (
            ((held, rows), 1), ((rows, held, held), 4), ((rows, limits, held), 4), ((rows, limits, limits), 4),
            ((rows, held, limits, "input x = 1"), 5), ((rows, limits, "cell x = 1"), 4),
            ((rows, held, "input x = 1"), 4),
            ((rows, held, limits, held), 5), ((rows, held, limits, limits), 5), ((limits, rows), 1),
            ((rows, held, ""), 4), ((rows, ""), 3), ((rows, "", held), 3), (("", rows), 0), ((rows, limits, ""), 4),
            ((rows, held, "", limits), 4),
        ):
            self.check_bad(read_desk, "\n".join(lines), at)

    def test_lines_that_do_not_have_their_form(self):
        for line in (
            "held ", "limits ", "held", "limits", "held a b", "held a,b", "held a, ", "held , a", "held  a", "held a ",
            "held sum", "held A", "held a, 1", " held a", "Held a", "limits a from", "limits a from 1 to", "limits  a",
            "limits a ", "limits a,b", "limits a, ", "limits , a", "limits sum", "limits 1", " limits a", "hold a",
            "limits a from 1/0", "input a = ", "cell x = ", "cell sum = 1", "input x 1", "limit a", "held: a",
        ):
            self.check_bad(read_desk, self.ROWS + "\n" + line, 3)
            self.check_bad(read_desk, line + "\n" + self.ROWS, 0)
            self.check_bad(read_desk, "cell x = ((\n" + line + "\n?", 1)

    def test_the_order_of_the_exceptions(self):
        rows = self.ROWS
        for text, kind, fields in (
            (rows + "\nheld none, nil\nlimits nix from 2 to 1", errors.UnknownCell, {"name": "none"}),
            ("held a", errors.UnknownCell, {"name": "a"}), ("limits a", errors.UnknownCell, {"name": "a"}),
            (rows + "\nheld a\nlimits nix from 2 to 1, a, a", errors.UnknownCell, {"name": "nix"}),
            (rows + "\nlimits a, b, a from 2 to 1", errors.DuplicateCell, {"name": "a"}),
            (rows + "\nlimits a to 2, b from 2 to 1, a", errors.EmptyLimit, {"name": "b"}),
            (rows + "\nlimits a from 9, b, b", errors.DuplicateCell, {"name": "b"}),
            (rows + "\nlimits a from 9\nheld none", errors.BadText, {"at": 4}),
        ):
            self.check_error(kind, fields, read_desk, text)
            self.check_error(kind, fields, read_desk, text=text)

    def test_limits_that_the_own_table_does_not_keep(self):
        for line, limits in (
            ("a from 4", [("a", 4, None)]), ("a to 2", [("a", None, 2)]), ("total to 2", [("total", None, 2)]),
            ("a, b from 0, total", [("a", None, None), ("b", 0, None), ("total", None, None)]),
            ("total from 3 to 5, a from 0", [("total", 3, 5), ("a", 0, None)]),
        ):
            for more in ("", "held total\n", "held a, b\n"):
                with self.assertRaises(errors.Refused) as caught:
                    read_desk(self.ROWS + "\n" + more + "limits " + line)
                weights = caught.exception.weights
                self.assertIs(is_refusal(FIRST, weights, held=["a", "b"], limits=limits), True)
                self.assertFalse(("held", "total") in [condition for condition, _ in weights])
        self.check(self.ROWS + "\nlimits a from 3 to 3", (), (("a", (3, 1), (3, 1)),))

    def test_texts_with_one_thing_changed(self):
        bad = 0
        for changed in changed_texts("input a = 3\ncell b = a\nheld a, b\nlimits a to 3, b from 1"):
            at = self.fault_of(changed.split("\n") if changed else [])
            if at is None:
                try:
                    read_desk(changed)
                except (errors.BadFormula, errors.UnknownCell, errors.DuplicateCell, errors.CircularCell,
                        errors.EmptyLimit, errors.Refused):
                    pass
            else:
                self.check_bad(read_desk, changed, at)
                bad += 1
        self.assertGreater(bad, 100)

    def fault_of(self, lines):
        """The first line that does not have its form or cannot stand where it is, or None."""
        last = 0
        for at, line in enumerate(lines):
            kinds = [kind for kind, pattern in enumerate((ROW, HELD, LIMITS)) if re.fullmatch(pattern, line)]
            if kinds == [] or kinds[0] < last or kinds[0] == last > 0:
                return at
            last = kinds[0]
        return None

    def test_random_desks(self):
        source = random.Random(51)
        for _ in range(100):
            sheet = cases.random_sheet(source, source.randrange(1, 4), source.randrange(4))
            lists = cases.random_lists(source, sheet)
            desk = Desk(sheet)
            for name in sorted(set(lists["held"])):
                desk.hold(name)
            for name, low, high in lists["limits"]:
                try:
                    desk.limit(name, low, high)
                except errors.Refused:
                    pass
            self.assertEqual(read_desk(desk_text(desk)), desk)
            self.assertEqual(read_sheet(sheet_text(desk.present_sheet())), desk.present_sheet())
            self.assertEqual(read_limits(limits_text(desk.present_limits())), desk.present_limits())
            self.assertEqual(read_table(table_text(desk.present_table())), desk.present_table())


if __name__ == "__main__":
    cases.unittest.main()
