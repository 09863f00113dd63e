"""Each example of the document, letter by letter."""

import cases
from cases import Case

from backsheet import errors
from backsheet.changes import attempt, solve
from backsheet.compare import is_join_refusal, joined, same_tables
from backsheet.conditions import conditions_of, is_refusal, left_side
from backsheet.console import Console
from backsheet.desk import Desk
from backsheet.formatting import limits_text, read_sheet, table_text, weights_text
from backsheet.forms import form_text, value_at
from backsheet.formulas import parse_formula
from backsheet.moves import elementary_moves
from backsheet.ranges import greatest_value, least_value, nearest_value
from backsheet.ratios import add, is_ratio, ratio, ratio_text, read_ratio
from backsheet.reasons import releases, smallest_fixing
from backsheet.roles import exchange
from backsheet.sheets import Sheet
from backsheet.solving import limit_needed
from backsheet.wishes import largest_wishes, smallest_clashes, wishes_in_order

SMALL = Sheet([("a", "input", 3), ("b", "formula", "a*2 + 1")])
BILL = Sheet([("net", "input", 100), ("tax", "input", 20), ("total", "formula", "net + tax")])


class NumbersAndFormsTest(Case):

    def test_ratios(self):
        self.assertEqual(ratio(6, -4), (-3, 2))
        self.assertIs(is_ratio((2, 4)), False)
        self.assertEqual(add((1, 2), (1, 3)), (5, 6))
        self.assertEqual(read_ratio("-2.50"), (-5, 2))
        self.assertEqual(ratio_text((-5, 2)), "-5/2")

    def test_forms(self):
        self.assertEqual(value_at(((("a", (2, 1)),), (1, 1)), [("a", 3)]), (7, 1))
        self.assertEqual(form_text(((("a", (-1, 1)), ("b", (1, 2))), (-3, 1))), "-a + 1/2*b - 3")

    def test_formulas(self):
        self.assertEqual(parse_formula("2*(a + b)/4 - a"), ((("a", (-1, 2)), ("b", (1, 2))), (0, 1)))
        self.check_error(errors.NotLinear, {"position": 2}, parse_formula, "a * b")
        self.check_error(errors.FormulaSyntax, {"position": 4}, parse_formula, "sum + a")
        self.assertEqual(parse_formula("(a - a) * b"), ((), (0, 1)))


class SheetsTest(Case):

    def test_tables(self):
        self.assertEqual(SMALL.own_table(), (("a", (3, 1)), ("b", (7, 1))))

    def test_conditions(self):
        limits = [("b", None, 9)]
        self.assertEqual(conditions_of(SMALL, limits=limits), (("formula", "b"), ("high", "b")))
        self.assertEqual(left_side(SMALL, ("formula", "b"), limits=limits), ((("a", (-2, 1)), ("b", (1, 1))), (-1, 1)))
        self.assertEqual(left_side(SMALL, ("high", "b"), limits=limits), ((("b", (-1, 1)),), (9, 1)))
        weights = ((("formula", "b"), (1, 1)), (("high", "b"), (1, 1)), (("wish", "a"), (2, 1)))
        self.assertIs(is_refusal(SMALL, weights, wishes=[("a", 5)], limits=limits), True)

    def test_limit_needed(self):
        sheet = Sheet([("a", "input", 3), ("b", "formula", "a * 2")])
        limits = [("a", 0, 5), ("b", None, 12)]
        self.assertEqual(limit_needed(sheet, "b", "high", limits=limits),
                         ("spare", ((("formula", "b"), (-1, 1)), (("high", "a"), (2, 1)))))

    def test_ranges(self):
        sheet = Sheet([("a", "input", 1), ("b", "input", 2), ("c", "formula", "a + b")])
        limits = [("a", 0, 4), ("b", None, 6)]
        self.assertEqual(greatest_value(sheet, "c", limits=limits), (
            "bound", (10, 1), (("a", (4, 1)), ("b", (6, 1)), ("c", (10, 1))),
            ((("formula", "c"), (-1, 1)), (("high", "a"), (1, 1)), (("high", "b"), (1, 1)))))
        self.assertEqual(least_value(sheet, "c", limits=limits)[0], "endless")
        self.assertEqual(nearest_value(sheet, "c", 20, limits=limits), (10, 1))


class ChangesTest(Case):

    def check(self, numbers, **lists):
        word, changed = solve(BILL, [("total", 130)], **lists)
        self.assertEqual((word, changed.own_table()), ("done", tuple(
            [(name, (number, 1)) for name, number in zip(("net", "tax", "total"), numbers)])))

    def test_attempt_and_solve(self):
        self.assertEqual(attempt(BILL, [("total", 130)], ["tax"]),
                         ("table", (("net", (100, 1)), ("tax", (30, 1)), ("total", (130, 1)))))
        self.check((110, 20, 130))
        self.check((100, 30, 130), held=["net"])
        self.check((100, 30, 130), limits=[("net", 0, 105)])
        self.check((102, 28, 130), limits=[("net", 0, 105), ("tax", 0, 28)])

    def test_several_wishes(self):
        wishes = [("net", 50), ("tax", 50), ("total", 90)]
        self.assertEqual(largest_wishes(BILL, wishes), (("net", "tax"), ("net", "total"), ("tax", "total")))
        (clash, weights), = smallest_clashes(BILL, wishes)
        self.assertEqual(clash, ("net", "tax", "total"))
        self.assertIs(is_refusal(BILL, weights, wishes=wishes), True)
        entries = wishes_in_order(BILL, wishes)
        self.assertEqual((entries[:2], entries[2][:2]), ((("kept", "net"), ("kept", "tax")), ("refused", "total")))


class CellsTest(Case):

    def test_reasons(self):
        self.assertEqual(smallest_fixing(BILL, ["net", "total"], "tax"),
                         (((("net", (-1, 1)), ("total", (1, 1))), (0, 1)),))
        self.assertEqual(releases(BILL, ["net", "total"], "tax"), (("net",), ("total",)))

    def test_moves(self):
        first = (("net", (1, 1)), ("tax", (-1, 1)))
        self.assertEqual(elementary_moves(BILL), (
            first, (("net", (1, 1)), ("total", (1, 1))), (("tax", (1, 1)), ("total", (1, 1)))))
        self.assertEqual(elementary_moves(BILL, held=["total"]), (first,))

    def test_roles(self):
        word, changed = exchange(BILL, "tax", "total")
        self.assertEqual((word, changed.rows()), ("done", (
            ("net", "input", (100, 1)), ("tax", "formula", "-net + total"), ("total", "input", (120, 1)))))
        self.assertEqual(same_tables(BILL, changed), ("same",))

    def test_joined(self):
        one = Sheet([("a", "input", 1), ("b", "formula", "a + 1")])
        other = Sheet([("a", "input", 1), ("b", "formula", "a + 2")])
        weights = (((0, "b"), (-1, 1)), ((1, "b"), (1, 1)))
        self.assertIs(is_join_refusal(one, other, weights), True)
        self.assertEqual(joined(one, other), ("refused", weights))


class DeskTest(Case):

    def test_desk(self):
        desk = Desk(Sheet([("a", "input", 3), ("b", "input", 4), ("total", "formula", "a + b")]))
        desk.hold("a")
        self.assertEqual(desk.set_values([("total", 10)]), ("b",))
        self.assertEqual(desk.value_of("b"), (7, 1))
        self.assertEqual(desk.limit("b", None, 5), ("b",))
        self.assertEqual((desk.value_of("b"), desk.value_of("total")), ((5, 1), (8, 1)))
        with self.assertRaises(errors.Refused) as caught:
            desk.set_values([("total", 9)])
        lists = {"wishes": [("total", 9)], "held": ["a"], "limits": [("b", None, 5)]}
        example = ((("formula", "total"), (-1, 1)), (("held", "a"), (-1, 1)), (("high", "b"), (1, 1)),
                   (("wish", "total"), (1, 1)))
        for weights in (caught.exception.weights, example):
            self.assertIs(is_refusal(desk.present_sheet(), weights, **lists), True)

    def test_texts(self):
        self.assertEqual(table_text((("a", (3, 1)), ("b", (1, 2)))), "a = 3, b = 1/2")
        self.assertEqual(read_sheet("input a = 3\ncell total = a + b\ninput b = 1").rows(), (
            ("a", "input", (3, 1)), ("total", "formula", "a + b"), ("b", "input", (1, 1))))
        self.assertEqual(limits_text((("a", (0, 1), (10, 1)), ("b", (0, 1), None), ("c", None, (10, 1)),
                                      ("d", None, None))), "a from 0 to 10, b from 0, c to 10, d")
        self.assertEqual(weights_text(((("formula", "total"), (-1, 1)), (("wish", "total"), (1, 1)))),
                         "-1 formula total, 1 wish total")
        self.check_error(errors.BadText, {"at": 0}, read_sheet, "input sum = 3")

    def test_console(self):
        console = Console()
        for line, answer in (
            ("input a 3", "ok"), ("input b 4", "ok"), ("cell total a + b", "ok"), ("hold a", "ok"),
            ("set total 10", "b = 7"), ("limit b - 5", "b = 5"), ("greatest total", "8"),
            ("why total 6", "possible b = 3"), ("undo", "ok"), ("value total", "10"),
        ):
            self.assertEqual(console.enter(line), answer)


if __name__ == "__main__":
    cases.unittest.main()
