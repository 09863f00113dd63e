"""[27], [28] and [29]: how far a cell can go."""

import random
import unittest

import cases
from cases import LARGE, LONG, NO_NAMES, ODD_VALUES, PAIR, TOTAL, Case

from backsheet import errors
from backsheet.conditions import is_refusal, keeps
from backsheet.moves import is_move
from backsheet.ranges import greatest_value, is_bound, is_endless, least_value, nearest_value, value_range
from backsheet.sheets import Sheet

FUNCTIONS = {"low": least_value, "high": greatest_value}
LIMITS = [("a", 0, 4), ("b", None, 6)]


def times(table, move, factor):
    """A table, as a dict of Fractions, plus a multiple of a move."""
    changes = cases.fractions_of(move)
    values = cases.fractions_of(table)
    return {name: values[name] + factor * changes.get(name, 0) for name in values}


class RangeCase(Case):

    def check_side(self, sheet, name, side, expected, **lists):
        """The answer for one side is the one of the three that exists, and it is a good one."""
        answer = FUNCTIONS[side](sheet, name, **lists)
        sides = cases.sides_of(sheet, **lists)
        sign = 1 if side == "low" else -1
        if expected == "refused":
            self.assertEqual((answer[0], len(answer)), ("refused", 2))
            self.assertTrue(is_refusal(sheet, answer[1], **lists))
            total = cases.sum_of(sides, answer[1])
            self.assertTrue(list(total) == [""] and total[""] < 0)
        elif expected is None:
            word, table, move = answer
            self.assertEqual(word, "endless")
            self.assertTrue(keeps(sheet, table, **lists) and cases.is_table_kept(sheet, sides, table))
            self.assertTrue(isinstance(move, tuple) and is_move(sheet, move))
            self.assertLess(sign * cases.fractions_of(move)[name], 0)
            for factor in (1, 1000, cases.Fraction(1, 1000), LONG ** 3):
                self.assertTrue(cases.is_kept(sides, times(table, move, factor)))
        else:
            word, number, table, weights = answer
            self.assertEqual((word, number), ("bound", expected))
            self.assertTrue(keeps(sheet, table, **lists) and cases.is_table_kept(sheet, sides, table))
            self.assertEqual(dict(table)[name], number)
            bound = cases.added((sign, cases.fixed_side(name, cases.fraction(number))))
            self.assertEqual(cases.sum_of(sides, weights), bound)
        for word, check in (("bound", is_bound), ("endless", is_endless)):
            self.assertIs(check(sheet, name, side, answer, **lists), word == answer[0])
            self.assertIs(check(sheet=sheet, name=name, side=side, answer=answer, **lists), word == answer[0])
            other = "high" if side == "low" else "low"
            self.assertIs(check(sheet, name, other, answer, **lists), False)
        tuples = {each: tuple(lists[each]) for each in lists}
        self.assertEqual(FUNCTIONS[side](sheet=sheet, name=name, **tuples), answer)

    def check(self, sheet, name, expected, **lists):
        """The range of a cell: "refused", or its ends, None where there is no end."""
        low, high = ("refused", "refused") if expected == "refused" else expected
        self.check_side(sheet, name, "low", low, **lists)
        self.check_side(sheet, name, "high", high, **lists)
        found = None if expected == "refused" else expected
        self.assertEqual(value_range(sheet, name, **lists), found)
        self.assertEqual(value_range(sheet=sheet, name=name, **lists), found)


class ValuesTest(RangeCase):

    def test_example(self):
        self.check(PAIR, "c", (None, (10, 1)), limits=LIMITS)
        word, number, table, weights = greatest_value(PAIR, "c", limits=LIMITS)
        self.assertEqual((word, number), ("bound", (10, 1)))
        self.assertEqual(table, (("a", (4, 1)), ("b", (6, 1)), ("c", (10, 1))))
        self.assertEqual(weights, ((("formula", "c"), (-1, 1)), (("high", "a"), (1, 1)), (("high", "b"), (1, 1))))

    def test_inputs_and_computed_cells(self):
        self.check(PAIR, "a", (None, None))
        self.check(PAIR, "c", (None, None))
        self.check(PAIR, "a", ((0, 1), (4, 1)), limits=LIMITS)
        self.check(PAIR, "b", (None, (6, 1)), limits=LIMITS)
        self.check(PAIR, "b", ((-4, 1), (10, 1)), limits=[("a", 0, 4), ("c", 0, 10)])
        self.check(PAIR, "c", ((1, 2), None), limits=[("a", (1, 3), 4), ("b", (1, 6), None)])
        self.check(PAIR, "c", ((5, 1), (5, 1)), limits=[("a", 2, 2), ("b", 3, 3)])
        self.check(PAIR, "c", ((3, 1), (3, 1)), limits=[("a", 1, None), ("b", 2, None), ("c", None, 3)])

    def test_cells_with_one_value(self):
        self.check(PAIR, "a", ((1, 1), (1, 1)), held=["a"])
        self.check(PAIR, "c", ((3, 1), (3, 1)), held=["c"])
        self.check(PAIR, "c", ((3, 1), (3, 1)), held=["a", "b"])
        self.check(PAIR, "c", ((8, 1), (8, 1)), wishes=[("c", 8)])
        self.check(PAIR, "b", ((7, 1), (7, 1)), wishes=[("c", 8)], held=["a"])
        self.check(PAIR, "a", (None, None), wishes=[("c", 8)])
        self.check(PAIR, "a", ((6, 1), None), wishes=[("c", 8)], limits=[("b", None, 2)])
        sheet = Sheet([("a", "input", 1), ("b", "formula", "a - a + 5"), ("c", "formula", "b - a*2"),
            ("d", "formula", "c + 2*a")])
        for name in ("b", "d"):
            self.check(sheet, name, ((5, 1), (5, 1)))
            self.check(sheet, name, ((5, 1), (5, 1)), limits=[("a", 0, 1), (name, 0, 9)])
        self.check(sheet, "a", "refused", limits=[("d", 6, 9)])

    def test_refusals(self):
        self.check(PAIR, "a", "refused", limits=LIMITS, wishes=[("c", 11)])
        self.check(PAIR, "c", "refused", limits=LIMITS, wishes=[("c", (10 * LONG + 1, LONG))])
        self.check(PAIR, "b", "refused", held=["a", "b"], wishes=[("c", 4)])

    def test_bounds_that_several_limits_meet(self):
        """Many limits at one corner: no way around it in circles."""
        sheet = Sheet([("a", "input", 0), ("b", "input", 0), ("c", "input", 0), ("d", "formula", "a + b"),
            ("e", "formula", "b + c"),
                       ("f", "formula", "a + c"), ("g", "formula", "a + b + c"), ("h", "formula", "a - b"),
                       ("i", "formula", "2*a - c"),
                       ("j", "formula", "a/2 - 8*b - c + 9*a")])
        limits = [(name, 0, None) for name in "defghi"]
        self.check(sheet, "j", (None, None), limits=limits)
        self.check(sheet, "g", ((0, 1), None), limits=limits)
        self.check(sheet, "a", ((0, 1), (0, 1)), limits=[*limits, ("j", None, None), ("a", None, 0)])
        self.check(sheet, "b", ((0, 1), (0, 1)), limits=[(name, 0, 0) for name in "defghij"])

    def test_sheets_without_inputs(self):
        sheet = Sheet([("a", "formula", "1/2")])
        self.check(sheet, "a", ((1, 2), (1, 2)))
        self.check(sheet, "a", ((1, 2), (1, 2)), limits=[("a", 0, 1)])
        self.check(sheet, "a", "refused", limits=[("a", 1, 1)])

    def test_random_sheets(self):
        source = random.Random(27)
        counts = {"refused": 0, "ends": 0, "one": 0, "endless": 0}
        for _ in range(500):
            sheet = cases.random_sheet(source, source.randrange(1, 4), source.randrange(4))
            lists = cases.random_lists(source, sheet)
            name = source.choice(sheet.cell_names())
            ends = cases.range_of(sheet, cases.sides_of(sheet, **lists), name)
            expected = "refused" if ends is None else tuple([None if end is None else cases.pair(end) for end in ends])
            counts["refused" if ends is None else {0: "ends", 1: "one", 2: "endless"}[expected.count(None)]] += 1
            self.check(sheet, name, expected, **lists)
        self.assertGreater(min(counts.values()), 4)

    def test_long_numbers(self):
        for digits in (20, 199):
            lists = cases.large_lists(digits)
            lists["wishes"] = []
            for name in "bil":
                self.check(LARGE, name, value_range(LARGE, name, **lists), **lists)

    def test_the_order_of_the_exceptions(self):
        for call in (least_value, greatest_value, value_range):
            self.check_lists(PAIR, call, PAIR, "a")
            for name in NO_NAMES:
                self.check_error(errors.UnknownCell, {"name": name}, call, PAIR, name, wishes=[None])


class TrueAnswersTest(RangeCase):

    BOUND = greatest_value(PAIR, "c", limits=LIMITS)
    ENDLESS = least_value(PAIR, "c", limits=LIMITS)

    def check_none(self, call, side, answers):
        for answer in answers:
            with self.subTest(answer=answer):
                self.assertIs(call(PAIR, "c", side, answer, limits=LIMITS), False)

    def test_bounds_with_one_part_changed(self):
        word, number, table, weights = self.BOUND
        first, second, third = weights
        self.assertIs(is_bound(PAIR, "c", "high", self.BOUND, limits=LIMITS), True)
        other = (("a", (3, 1)), ("b", (6, 1)), ("c", (9, 1)))
        self.check_none(is_bound, "high", (
            ("endless", number, table, weights), ("Bound", number, table, weights), (None, number, table, weights),
            (word, 10, table, weights), (word, [10, 1], table, weights), (word, (20, 2), table, weights),
            (word, (9, 1), table, weights), (word, (11, 1), table, weights), (word, None, table, weights),
            (word, number, list(table), weights), (word, number, other, weights), (word, (9, 1), other, weights),
            (word, number, table[::-1], weights), (word, number, table[:2], weights), (word, number, None, weights),
            (word, number, (("a", 4), *table[1:]), weights), (word, number, (["a", (4, 1)], *table[1:]), weights),
            (word, number, (("a", (5, 1)), ("b", (5, 1)), ("c", (10, 1))), weights),
            (word, number, (("a", (4, 1)), ("b", (6, 1)), ("c", (11, 1))), weights),
            (word, number, table, list(weights)), (word, number, table, weights[:2]), (word, number, table, ()),
            (word, number, table, (second, first, third)), (word, number, table, None),
            (word, number, table, (*weights, third)), (word, number, table,
            ((("formula", "c"), (1, 1)), second, third)),
            (word, number, table, ((("formula", "c"), -1), second, third)),
            (word, number, table, (first, second, (("high", "b"), (2, 1)))),
            (word, number, table, (first, second, [("high", "b"), (1, 1)])),
            (word, number, table, (first, second, (("low", "b"), (1, 1)))),
            list(self.BOUND), (word, number, table), (*self.BOUND, None), (word, number, weights, table),
            *ODD_VALUES, (), [], self.ENDLESS,
        ))
        self.assertIs(is_bound(PAIR, "c", "low", self.BOUND, limits=LIMITS), False)
        self.assertIs(is_bound(PAIR, "b", "high", self.BOUND, limits=LIMITS), False)
        self.assertIs(is_bound(PAIR, "c", "high", self.BOUND, limits=[("a", 0, 4), ("b", None, 7)]), False)
        self.assertIs(is_bound(PAIR, "c", "high", self.BOUND, limits=[("a", 0, 5), ("b", None, 5)]), False)
        self.assertIs(is_bound(PAIR, "c", "high", self.BOUND, limits=LIMITS, held=["a"]), False)
        # A table that keeps them, with True where 1 belongs.
        answer = (word, (True, 1), (("a", (1, 1)),), ())
        sheet = Sheet([("a", "formula", "1")])
        self.assertIs(is_bound(sheet, "a", "low", answer), False)
        good = least_value(sheet, "a")
        self.assertIs(is_bound(sheet, "a", "low", good), True)
        self.assertIs(is_bound(sheet, "a", "low", (word, (True, 1), *good[2:])), False)
        self.assertIs(is_bound(sheet, "a", "low", (*good[:2], (("a", (1, True)),), good[3])), False)

    def test_a_table_that_is_none_behind_good_weights(self):
        word, number, _, weights = self.BOUND
        for table in ((("a", (4, 1)), ("b", (6, 1)), ("c", (10, 1)), ("d", (1, 1))), (), "abc"):
            self.assertIs(is_bound(PAIR, "c", "high", (word, number, table, weights), limits=LIMITS), False)

    def test_endless_answers_with_one_part_changed(self):
        word, table, move = self.ENDLESS
        self.assertIs(is_endless(PAIR, "c", "low", self.ENDLESS, limits=LIMITS), True)
        self.assertEqual(dict(move)["c"][0] < 0, True)
        good = (("a", (0, 1)), ("b", (0, 1)), ("c", (0, 1)))
        down = (("b", (-2, 3)), ("c", (-2, 3)))
        self.assertIs(is_endless(PAIR, "c", "low", (word, good, down), limits=LIMITS), True)
        self.check_none(is_endless, "low", (
            ("bound", table, move), ("Endless", table, move), (True, table, move), (word, list(table), move),
            (word, (("a", 0), *good[1:]), down), (word, good[::-1], down), (word, good[:2], down), (word, None, down),
            (word, (("a", (5, 1)), ("b", (0, 1)), ("c", (5, 1))), down), (word, (*good[:2], ("c", (1, 1))), down),
            (word, good, list(down)), (word, good, down[::-1]), (word, good, down[:1]), (word, good, ()),
            (word, good, None),
            (word, good, (("b", (2, 3)), ("c", (2, 3)))), (word, good, (("a", (-1, 1)), ("c", (-1, 1)))),
            (word, good, (("b", -1), ("c", -1))), (word, good, (("b", (-2, 2)), ("c", (-2, 2)))),
            (word, good, (["b", (-1, 1)], ("c", (-1, 1)))), (word, good, (("b", (-1, 1)), ("c", (-2, 1)))),
            (word, good, (("a", (0, 1)), ("b", (-1, 1)), ("c", (-1, 1)))),
            (word, good, (("a", (1, 1)), ("b", (-1, 1)))),
            list(self.ENDLESS), (word, table), (word, table, move, ()), (word, move, table), *ODD_VALUES, (), [],
            self.BOUND,
        ))
        self.assertIs(is_endless(PAIR, "c", "high", self.ENDLESS, limits=LIMITS), False)
        self.assertIs(is_endless(PAIR, "a", "low", self.ENDLESS, limits=LIMITS), False)
        for more in ({"limits": [("c", -1000, None)]}, {"held": ["b"]}, {"wishes": [("b", 0)]}, {"held": ["c"]}):
            lists = {"limits": LIMITS, **more}
            self.assertIs(is_endless(PAIR, "c", "low", (word, good, down), **lists), False)
        self.assertIs(is_endless(PAIR, "c", "low", (word, good, down), limits=LIMITS, wishes=[("a", 0)]), True)

    def test_a_move_that_leaves_its_bounds_is_endless_only_the_other_way(self):
        up = ("endless", (("a", (0, 1)), ("b", (0, 1)), ("c", (0, 1))), (("b", (1, 1)), ("c", (1, 1))))
        self.assertIs(is_endless(PAIR, "c", "high", up, limits=[("a", 0, 4)]), True)
        self.assertIs(is_endless(PAIR, "b", "high", up, limits=[("b", 0, None)]), True)
        self.assertIs(is_endless(PAIR, "c", "high", up, limits=LIMITS), False)
        self.assertIs(is_endless(PAIR, "b", "low", up, limits=[("b", 0, None)]), False)

    def test_the_order_of_the_exceptions(self):
        for call in (is_bound, is_endless):
            for name in NO_NAMES:
                self.check_error(errors.UnknownCell, {"name": name}, call, PAIR, name, None, None, wishes=[None])
            for side in (*ODD_VALUES, "Low", "held", ("low",), ["low"], "both"):
                self.check_error(errors.UnknownSide, {"side": side}, call, PAIR, "a", side, None, wishes=[None])
            self.check_lists(PAIR, call, PAIR, "a", "low", None)


class NearestTest(Case):

    def check(self, number, expected, name="c", **lists):
        lists = lists or {"limits": LIMITS}
        self.assertEqual(nearest_value(PAIR, name, number, **lists), expected)
        self.assertEqual(nearest_value(sheet=PAIR, name=name, number=number, **lists), expected)

    def test_example(self):
        self.check(20, (10, 1))

    def test_numbers_below_in_and_above_the_range(self):
        self.check((21, 2), (10, 1))
        self.check(10, (10, 1))
        self.check((19, 2), (19, 2))
        self.check(-LONG, (-LONG, 1))
        self.check(-1, (0, 1), "a")
        self.check(0, (0, 1), "a")
        self.check((1, LONG), (1, LONG), "a")
        self.check(4, (4, 1), "a")
        self.check((4 * LONG + 1, LONG), (4, 1), "a")
        self.check(5, (5, 1), limits=[("c", 5, None)])
        self.check(4, (5, 1), limits=[("c", 5, None)])
        self.check(9, (9, 1), limits=[("c", 5, None)])
        self.check(9, (9, 1), limits=[])
        self.check(9, (3, 1), held=["c"])
        self.check(-9, (3, 1), held=["a", "b"])
        self.check((7, 2), (5, 2), wishes=[("c", (5, 2))])

    def test_no_table(self):
        for number in (-50, 0, 5, 11, 50):
            self.check(number, None, limits=LIMITS, wishes=[("c", 11)])

    def test_the_order_of_the_exceptions(self):
        for name in NO_NAMES:
            self.check_error(errors.UnknownCell, {"name": name}, nearest_value, PAIR, name, None, wishes=[None])
        for value in ODD_VALUES:
            if value not in (0, 7) or isinstance(value, bool):
                self.check_error(errors.InvalidNumber, {"value": value}, nearest_value, PAIR, "a", value, wishes=[None])
        self.check_lists(PAIR, nearest_value, PAIR, "a", 3)


if __name__ == "__main__":
    unittest.main()
