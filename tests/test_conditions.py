"""[18] to [23]: conditions and weights, and [3] and [5] where these speak of them."""

import unittest

from cases import Case

from backsheet import errors
from backsheet.conditions import conditions_of, is_refusal, keeps, left_side, weighted_sum
from backsheet.sheets import Sheet

SHEET = Sheet([("a", "input", 3), ("b", "formula", "a*2 + 1")])
LARGE = Sheet([("total", "formula", "net + tax"), ("net", "input", 100), ("tax", "input", (41, 2))])
LONG = 7 * 10 ** 199 + 3

# Values that are no wishes, limits, weights or pairs of weights.
ODD_VALUES = (
    None, True, False, 0, 7, "", "a", "wish", (), [], ((),), (2, 4), (1, 0), (1, 2, 3, 4), [1, 2], (1,), ["a", 3],
    (None, None), (True, 1), (1, True), [["a", 3]], (("a",),), ("a",), ("low", "b"), ["a", 1, 2], (("a", 3),),
)
NO_NUMBERS = (True, False, "3", "", (2, 4), (1, 0), (1, -2), [1, 2], (True, 1), (1, True), (), ("a",))

REFUSAL = ((("formula", "b"), (1, 1)), (("high", "b"), (1, 1)), (("wish", "a"), (2, 1)))


def linear(constant, **factors):
    """A form with integers alone."""
    return tuple([(name, (factors[name], 1)) for name in sorted(factors)]), (constant, 1)


class ConditionsTest(Case):

    def check_all(self, kind, fields, **lists):
        """Each function raises the error, ahead of what else it would raise."""
        self.check_error(kind, fields, conditions_of, SHEET, **lists)
        for odd in ("none", None):
            self.check_error(kind, fields, left_side, SHEET, odd, **lists)
            self.check_error(kind, fields, keeps, SHEET, odd, **lists)
            self.check_error(kind, fields, weighted_sum, SHEET, odd, **lists)
            self.check_error(kind, fields, is_refusal, SHEET, odd, **lists)


class ListsTest(ConditionsTest):

    def test_example(self):
        limits = [("b", None, 9)]
        self.assertEqual(conditions_of(SHEET, limits=limits), (("formula", "b"), ("high", "b")))
        self.assertEqual(left_side(SHEET, ("formula", "b"), limits=limits), ((("a", (-2, 1)), ("b", (1, 1))), (-1, 1)))
        self.assertEqual(left_side(SHEET, ("high", "b"), limits=limits), ((("b", (-1, 1)),), (9, 1)))

    def test_all_five_kinds(self):
        lists = {"wishes": [("total", (1, 2)), ("net", 4)], "held": ["tax", "net", "tax", "total"],
                 "limits": [("tax", 5, None), ("net", None, None), ("total", (-1, 3), 7)]}
        for kind in (tuple, list):
            passed = {word: kind(lists[word]) for word in lists}
            self.assertEqual(conditions_of(LARGE, **passed), (
                ("formula", "total"), ("held", "net"), ("held", "tax"), ("held", "total"), ("high", "total"),
                ("low", "tax"), ("low", "total"), ("wish", "net"), ("wish", "total"),
            ))
            for condition, side in (
                (("formula", "total"), linear(0, net=-1, tax=-1, total=1)), (("held", "net"), linear(-100, net=1)),
                (("held", "tax"), ((("tax", (1, 1)),), (-41, 2))),
                (("held", "total"), ((("total", (1, 1)),), (-241, 2))),
                (("high", "total"), linear(7, total=-1)), (("low", "tax"), linear(-5, tax=1)),
                (("low", "total"), ((("total", (1, 1)),), (1, 3))), (("wish", "net"), linear(-4, net=1)),
                (("wish", "total"), ((("total", (1, 1)),), (-1, 2))),
            ):
                self.assertEqual(left_side(LARGE, condition, **passed), side)
                self.assertEqual(left_side(sheet=LARGE, condition=condition, **passed), side)
            self.assertEqual(passed, {word: kind(lists[word]) for word in lists})

    def test_no_conditions(self):
        self.assertEqual(conditions_of(Sheet()), ())
        self.assertEqual(conditions_of(Sheet([("a", "input", 1)]), limits=[("a", None, None)]), ())
        self.assertEqual(conditions_of(sheet=SHEET, wishes=(), held=(), limits=()), (("formula", "b"),))
        self.assertEqual(conditions_of(SHEET, limits=(("a", 4, 4),)), (("formula", "b"), ("high", "a"), ("low", "a")))

    def test_a_formula_that_has_cancelled_and_long_numbers(self):
        sheet = Sheet([("a", "input", (1, LONG)), ("b", "formula", "2 + a - a")])
        self.assertEqual(left_side(sheet, ("formula", "b")), linear(-2, b=1))
        self.assertEqual(left_side(sheet, ("held", "a"), held=["a"]), ((("a", (1, 1)),), (-1, LONG)))

    def test_other_conditions(self):
        lists = {"wishes": [("a", 4)], "held": ["b"], "limits": [("a", 0, None), ("b", None, 9)]}
        for condition in (
            *ODD_VALUES, ("formula", "a"), ("formula", "none"), ("held", "a"), ("wish", "b"), ("low", "b"),
            ("high", "a"),
            ["held", "b"], ("held", "b", "b"), ("b", "held"), ("Held", "b"), ("", ""), ("held", ["b"]), ["wish", ["a"]],
            (("held", "b"),), ("held",), "held",
        ):
            with self.subTest(condition=condition):
                self.check_error(errors.UnknownCondition, {"condition": condition}, left_side, SHEET, condition,
                    **lists)


class CheckingTest(ConditionsTest):

    def test_wishes(self):
        for wish in (
            *ODD_VALUES, *[("a", number) for number in NO_NUMBERS], ("a", None), ("a", 3, 3), (["a"], 3), (("a",), 3),
            (None, 3), (1, 3), ["a", 3],
        ):
            self.check_all(errors.InvalidWish, {"index": 0}, wishes=[wish])
            self.check_all(errors.InvalidWish, {"index": 1}, wishes=[("a", 3), wish, None])
        for name in ("none", "", "sum", "A", "a\n"):
            self.check_all(errors.UnknownCell, {"name": name}, wishes=(("a", 3), (name, 3), None))
            self.check_all(errors.InvalidWish, {"index": 0}, wishes=[(name, "3")])
        self.check_all(errors.DuplicateCell, {"name": "a"}, wishes=[("a", 3), ("b", 3), ("a", 3), ("c", 3)])
        self.check_all(errors.InvalidWish, {"index": 1}, wishes=[("a", 3), ("a", True)])

    def test_held(self):
        for name in ("none", "", "sum", "A", "a\n"):
            self.check_all(errors.UnknownCell, {"name": name}, held=["a", "a", name, "other"])
            self.check_all(errors.UnknownCell, {"name": name}, held=(name, "another"))

    def test_limits(self):
        for limit in (
            *ODD_VALUES, *[("a", number, None) for number in NO_NUMBERS],
            *[("a", None, number) for number in NO_NUMBERS],
            ("a", 3), ("a", 1, 2, 3), (["a"], 1, 2), (None, 1, 2), (1, 2, 3), ["a", 1, 2],
        ):
            self.check_all(errors.InvalidLimit, {"index": 0}, limits=[limit])
            self.check_all(errors.InvalidLimit, {"index": 1}, limits=[("b", 3, None), limit, None])
        for name in ("none", "", "sum", "A", "a\n"):
            self.check_all(errors.UnknownCell, {"name": name}, limits=[("a", 3, 3), (name, 2, 1), None])
            self.check_all(errors.InvalidLimit, {"index": 0}, limits=[(name, "3", 2)])
        self.check_all(errors.DuplicateCell, {"name": "a"}, limits=[("a", 3, 3), ("b", 3, 3), ("a", 2, 1), None])
        self.check_all(errors.InvalidLimit, {"index": 1}, limits=[("a", 3, 3), ("a", 2, [])])
        self.check_all(errors.EmptyLimit, {"name": "b"}, limits=[("a", 3, 3), ("b", 2, 1), None])
        self.check_all(errors.EmptyLimit, {"name": "b"}, limits=[("b", (1, 2), (1, 3)), ("a", 2, 1)])
        self.check_all(errors.EmptyLimit, {"name": "b"}, limits=[("b", LONG + 1, LONG)])

    def test_one_cell_may_stand_in_several_lists(self):
        lists = {"wishes": [("a", 1)], "held": ["a"], "limits": [("a", 1, 1)]}
        self.assertEqual(len(conditions_of(SHEET, **lists)), 5)

    def test_the_order_of_the_lists(self):
        wishes, held, limits = [("a", "x")], ["none"], [None]
        self.check_all(errors.InvalidWish, {"index": 0}, wishes=wishes, held=held, limits=limits)
        self.check_all(errors.UnknownCell, {"name": "none"}, held=held, limits=limits)
        self.check_all(errors.DuplicateCell, {"name": "a"}, wishes=[("a", 1), ("a", 1)], held=held, limits=limits)
        self.check_all(errors.UnknownCell, {"name": "c"}, wishes=[("c", 1)], held=held, limits=limits)


class KeepsTest(ConditionsTest):

    def check(self, value, expected, **lists):
        with self.subTest(value=value, lists=lists):
            self.assertIs(keeps(LARGE, value, **lists), expected)
            self.assertIs(keeps(sheet=LARGE, table=value, **lists), expected)

    def test_tables_that_keep_all_conditions(self):
        lists = {"wishes": [("total", 130)], "held": ["net"], "limits": [("tax", 30, 30), ("net", None, 100)]}
        for table in (
            (("total", 130), ("net", 100), ("tax", 30)), [("total", (130, 1)), ("net", (100, 1)), ("tax", 30)],
        ):
            self.check(table, True, **lists)
            self.check(table, True)
        self.check(LARGE.own_table(), True)
        self.check(LARGE.own_table(), True, held=["net", "tax", "total"])
        self.assertIs(keeps(Sheet(), ()), True)

    def test_tables_that_miss_one_by_a_little(self):
        table = (("total", 130), ("net", 100), ("tax", 30))
        above, below = (30 * LONG + 1, LONG), (30 * LONG - 1, LONG)
        self.check(table, True, limits=[("tax", below, above)])
        self.check(table, False, limits=[("tax", above, None)])
        self.check(table, False, limits=[("tax", None, below)])
        self.check(table, False, wishes=[("tax", above)])
        self.check(table, False, wishes=[("tax", below)])
        self.check(table, False, held=["tax"])
        self.check(table, False, held=["net", "total"])
        self.check(table, True, held=["net"])
        self.check((("total", (130 * LONG + 1, LONG)), ("net", 100), ("tax", 30)), False)
        self.check(table, False, limits=[("net", 100, 100), ("tax", 29, 31), ("total", 131, None)])

    def test_values_that_are_no_tables(self):
        for value in (
            *ODD_VALUES, (("net", 100), ("tax", 30), ("total", 130)), (["total", 130], ("net", 100), ("tax", 30)),
            (("total", 130), ("net", 100)), (("total", "130"), ("net", 100), ("tax", 30)),
            (("total", 1), ("net", 0), ("tax", True)),
        ):
            self.check(value, False)
            self.check(value, False, limits=[("net", 0, None)])


class WeightsTest(ConditionsTest):

    LISTS = {"wishes": [("a", 5)], "limits": [("b", -4, 9)]}

    def check_none(self, weights):
        with self.subTest(weights=weights):
            self.check_error(errors.InvalidWeights, {}, weighted_sum, SHEET, weights, **self.LISTS)
            self.assertIs(is_refusal(SHEET, weights, **self.LISTS), False)

    def check(self, weights, form, refuses):
        for passed in (tuple(weights), list(weights)):
            self.assertEqual(weighted_sum(SHEET, passed, **self.LISTS), form)
            self.assertEqual(weighted_sum(sheet=SHEET, weights=passed, **self.LISTS), form)
            self.assertIs(is_refusal(SHEET, passed, **self.LISTS), refuses)
            self.assertIs(is_refusal(sheet=SHEET, weights=passed, **self.LISTS), refuses)
            self.assertEqual(list(passed), list(weights))

    def test_example(self):
        self.check(REFUSAL, linear(-2), True)

    def test_weights(self):
        self.check((), linear(0), False)
        self.check([(("formula", "b"), (-1, 2))], ((("a", (1, 1)), ("b", (-1, 2))), (1, 2)), False)
        self.check([(("high", "b"), (2, 1))], linear(18, b=-2), False)
        self.check([(("high", "b"), (1, 1)), (("low", "b"), (1, 1))], linear(13), False)
        self.check([(("wish", "a"), (-3, 1))], linear(15, a=-3), False)
        self.check([(("low", "b"), (LONG, 1))], linear(4 * LONG, b=LONG), False)

    def test_refusals_need_a_constant_below_0_and_no_terms(self):
        self.check([(condition, (top * 7, 3)) for condition, (top, _) in REFUSAL], ((), (-14, 3)), True)
        for number, refuses in ((4, False), ((9, 2), True), (5, True), ((7, 2), False)):
            lists = {"wishes": [("a", number)], "limits": [("b", None, 9)]}
            self.assertIs(is_refusal(SHEET, REFUSAL, **lists), refuses)
        self.assertEqual(weighted_sum(SHEET, REFUSAL, wishes=[("a", 4)], limits=[("b", None, 9)]), linear(0))
        self.check([(("formula", "b"), (1, 1)), (("wish", "a"), (2, 1))], linear(-11, b=1), False)
        self.check([(("formula", "b"), (-1, 1)), (("low", "b"), (1, 1)), (("wish", "a"), (-2, 1))], linear(15), False)

    def test_values_that_are_no_weights(self):
        first, second, third = REFUSAL
        for weights in (
            (second, first, third), (first, third, second), (first, first), (second, second), (*REFUSAL, third),
            (first, (("high", "a"), (1, 1)), third), (first, (("held", "a"), (1, 1))), ((("formula", "a"), (1, 1)),),
            ((("formula", "b"), (0, 1)),), ((("high", "b"), (0, 1)),), ((("high", "b"), (-1, 1)),),
            ((("low", "b"), (-1, 1)),), ((("wish", "a"), 1),), ((("wish", "a"), (2, 2)),),
            ((("wish", "a"), (True, 1)),),
            ((("wish", "a"), (1, True)),), ((("wish", "a"), [1, 1]),), ([("wish", "a"), (1, 1)],),
            ((["wish", "a"], (1, 1)),), ((("wish", "a"),),), ((("wish", "a"), (1, 1), (1, 1)),),
            (("wish", "a"), (1, 1)),
            ((("wish", ["a"]), (1, 1)),), ((["wish", ["a"]], (1, 1)),), (("wish", (1, 1)),), ((("wish",), (1, 1)),),
            ((("wish", "a"), "1"),), ((("wish", "a"), None),), (None,), (first, None), {first: 1},
        ):
            self.check_none(weights)
        for weights in ODD_VALUES:
            if weights not in ((), []):
                self.check_none(weights)
        self.assertEqual(weighted_sum(SHEET, []), linear(0))


if __name__ == "__main__":
    unittest.main()
