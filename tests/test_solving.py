"""[24] and [25]: tables or refusals, and what a bound of a limit is needed for."""

import random
import unittest

import cases
from cases import LARGE, LONG, NO_NAMES, ODD_VALUES, PAIR, TOTAL, Case

from backsheet import errors
from backsheet.conditions import is_refusal, keeps
from backsheet.sheets import Sheet
from backsheet.solving import is_possible, is_spare, limit_needed, table_or_refusal

DOUBLE = Sheet([("a", "input", 3), ("b", "formula", "a * 2")])


class AnswerCase(Case):

    def check(self, sheet, possible, **lists):
        """The answer is the one of the two that exists, and it is a good one."""
        answer = table_or_refusal(sheet, **lists)
        word, found = answer
        self.assertEqual(word, "table" if possible else "refused")
        self.assertIs(is_possible(sheet, **lists), possible)
        sides = cases.sides_of(sheet, **lists)
        if possible:
            self.assertTrue(cases.is_table_kept(sheet, sides, found))
            self.assertTrue(keeps(sheet, found, **lists))
        else:
            self.check_refusal(sheet, found, **lists)
        tuples = {word: tuple(lists[word]) for word in lists}
        self.assertEqual(table_or_refusal(sheet=sheet, **tuples), answer)
        return found

    def check_refusal(self, sheet, weights, **lists):
        self.assertTrue(is_refusal(sheet, weights, **lists))
        total = cases.sum_of(cases.sides_of(sheet, **lists), weights)
        self.assertEqual(list(total), [""])
        self.assertLess(total[""], 0)


class TableTest(AnswerCase):

    def test_no_conditions(self):
        self.check(TOTAL, True)
        self.check(LARGE, True)

    def test_no_rows(self):
        self.assertEqual(table_or_refusal(Sheet()), ("table", ()))
        self.assertIs(is_possible(Sheet()), True)

    def test_sheets_without_inputs(self):
        sheet = Sheet([("a", "formula", "2"), ("b", "formula", "a + 1")])
        self.check(sheet, True, wishes=[("b", 3)], held=["a"], limits=[("a", 2, 2), ("b", None, 3)])
        self.check(sheet, False, wishes=[("b", 4)])
        self.check(sheet, False, limits=[("b", (7, 2), 9)])
        self.check(sheet, False, limits=[("b", 0, (5, 2))])

    def test_wishes(self):
        self.check(TOTAL, True, wishes=[("total", 130)])
        self.check(TOTAL, True, wishes=[("total", (1, 3)), ("tax", -5)])
        self.check(TOTAL, True, wishes=[("total", 130), ("tax", 30), ("net", 100)])
        self.check(TOTAL, False, wishes=[("total", 130), ("tax", 30), ("net", 101)])
        self.check(TOTAL, False, wishes=[("total", 130), ("tax", 30), ("net", (100 * LONG - 1, LONG))])

    def test_wishes_for_computed_cells_that_no_table_keeps_together(self):
        sheet = Sheet([("a", "input", 1), ("b", "input", 2), ("c", "formula", "a + b"),
            ("d", "formula", "2*a + 2*b + 1"),
                       ("e", "formula", "c - d/2")])
        self.check(sheet, True, wishes=[("c", 4), ("d", 9)])
        self.check(sheet, False, wishes=[("c", 4), ("d", 10)])
        self.check(sheet, False, wishes=[("e", 0)])
        self.check(sheet, True, wishes=[("e", (-1, 2)), ("a", 7), ("b", 8)])

    def test_held_cells(self):
        self.check(TOTAL, False, held=["net", "tax"], wishes=[("total", 121)])
        self.check(TOTAL, True, held=["net", "tax"], wishes=[("total", 120)])
        self.check(TOTAL, True, held=["net", "tax", "total"], limits=[("total", 120, 120)])
        self.check(TOTAL, False, held=["net", "tax"], limits=[("total", 121, None)])
        self.check(TOTAL, False, held=["total"], wishes=[("net", 50), ("tax", 50)])
        self.check(TOTAL, True, held=["total"], wishes=[("net", 70), ("tax", 50)])
        self.check(LARGE, True, held=list("abcdefghijkl"))
        self.check(LARGE, False, held=list("abcdef"), limits=[("k", None, 5)])
        self.check(LARGE, False, held=list("ghijkl"), wishes=[("a", 5), ("b", 5)])

    def test_a_bound_at_the_end_of_what_is_left_and_just_beyond_it(self):
        limits = [("net", 0, 105), ("tax", 0, 28)]
        for number, possible in (
            (133, True), ((133 * LONG + 1, LONG), False), ((133 * LONG - 1, LONG), True), (0, True), (-1, False),
            ((-1, LONG), False),
        ):
            self.check(TOTAL, possible, limits=limits, wishes=[("total", number)])
            self.check(TOTAL, possible, limits=[*limits, ("total", number, number)])
        for low, possible in ((133, True), ((133 * LONG + 1, LONG), False)):
            self.check(TOTAL, possible, limits=[*limits, ("total", low, None)])
        for high, possible in ((0, True), ((-1, LONG), False)):
            self.check(TOTAL, possible, limits=[*limits, ("total", None, high)])

    def test_limits_of_one_value(self):
        self.check(PAIR, True, limits=[("a", 3, 3), ("b", 4, 4), ("c", 7, 7)])
        self.check(PAIR, False, limits=[("a", 3, 3), ("b", 4, 4), ("c", 8, 8)])
        self.check(PAIR, False, limits=[("a", 3, 3)], wishes=[("a", 4)])
        self.check(PAIR, True, limits=[("a", None, None)], wishes=[("a", 4)])

    def test_many_bounds_at_once(self):
        near = [(name, value[0] // value[1] - 9, value[0] // value[1] + 9) for name, value in LARGE.own_table()]
        self.check(LARGE, True, limits=near)
        self.check(LARGE, False, limits=[(name, low + 20, high + 20) for name, low, high in near])
        for at in range(12):
            name, low, high = near[at]
            self.check(LARGE, True, limits=near[:at] + [(name, low, low + 9)] + near[at + 1:])
        self.check(LARGE, True, limits=[(name, value, value) for name, value in LARGE.own_table()])

    def test_long_numbers(self):
        for digits in (20, 199):
            lists = cases.large_lists(digits)
            self.check(LARGE, is_possible(LARGE, **lists), **lists)
            lists["wishes"] = []
            self.check(LARGE, True, **lists)

    def test_random_sheets(self):
        source = random.Random(24)
        counts = {True: 0, False: 0}
        for _ in range(400):
            sheet = cases.random_sheet(source, source.randrange(4), source.randrange(4))
            lists = cases.random_lists(source, sheet)
            possible = cases.is_possible(sheet, cases.sides_of(sheet, **lists))
            counts[possible] += 1
            self.check(sheet, possible, **lists)
        self.assertGreater(min(counts.values()), 50)

    def test_arguments_are_checked_and_stay_as_they_are(self):
        for call in (table_or_refusal, is_possible):
            self.check_lists(TOTAL, call, TOTAL)
            lists = {"wishes": [("total", 7)], "held": ["tax", "tax"], "limits": [("net", None, 5)]}
            call(TOTAL, **lists)
            self.assertEqual(lists, {"wishes": [("total", 7)], "held": ["tax", "tax"], "limits": [("net", None, 5)]})


class NeededTest(AnswerCase):

    def check_needed(self, sheet, expected, name, side, **lists):
        answer = limit_needed(sheet, name, side, **lists)
        word, found = answer
        self.assertEqual(word, expected)
        without = dict(lists)
        without["limits"] = [(each, None if (name, side) == (each, "low") else low,
                              None if (name, side) == (each, "high") else high) for each, low, high in lists["limits"]]
        sides = cases.sides_of(sheet, **without)
        if word == "refused":
            self.check_refusal(sheet, found, **without)
        elif word == "spare":
            self.assertIs(is_spare(sheet, name, side, found, **lists), True)
            self.assertIs(is_spare(sheet=sheet, name=name, side=side, weights=list(found), **lists), True)
            bound = cases.sides_of(sheet, **lists)[side, name]
            rest = cases.added((1, bound), (-1, cases.sum_of(sides, found)))
            self.assertIn(list(rest), ([], [""]))
            self.assertGreaterEqual(rest.get("", 0), 0)
        else:
            self.assertTrue(cases.is_table_kept(sheet, sides, found))
            self.assertTrue(keeps(sheet, found, **without))
            self.assertFalse(keeps(sheet, found, **lists))
        tuples = {each: tuple(lists[each]) for each in lists}
        self.assertEqual(limit_needed(sheet=sheet, name=name, side=side, **tuples), answer)
        return found

    def test_example(self):
        limits = [("a", 0, 5), ("b", None, 12)]
        expected = ((("formula", "b"), (-1, 1)), (("high", "a"), (2, 1)))
        self.assertEqual(self.check_needed(DOUBLE, "spare", "b", "high", limits=limits), expected)

    def test_bounds_that_follow_with_0_and_with_more(self):
        above, below = (10 * LONG + 1, LONG), (10 * LONG - 1, LONG)
        for number, word in ((10, "spare"), (11, "spare"), (above, "spare"), (below, "needed")):
            self.check_needed(DOUBLE, word, "b", "high", limits=[("a", 0, 5), ("b", None, number)])
        for number, word in ((0, "spare"), (-1, "spare"), ((1, LONG), "needed")):
            self.check_needed(DOUBLE, word, "b", "low", limits=[("b", number, 30), ("a", 0, 5)])
        self.check_needed(DOUBLE, "spare", "a", "low", limits=[("a", 4, 5)], wishes=[("b", 9)])
        self.check_needed(DOUBLE, "spare", "a", "high", limits=[("a", 2, 3)], held=["b"])
        self.check_needed(DOUBLE, "spare", "a", "low", limits=[("a", 3, 3)], held=["a"])

    def test_bounds_that_are_needed(self):
        self.check_needed(TOTAL, "needed", "net", "low", limits=[("net", 0, None)])
        self.check_needed(TOTAL, "needed", "net", "high", limits=[("net", 0, 50)])
        self.check_needed(TOTAL, "needed", "net", "low", limits=[("net", 200, 500)])
        self.check_needed(TOTAL, "needed", "total", "high", limits=[("net", 0, 50), ("tax", 0, 50),
            ("total", None, 99)])
        self.check_needed(TOTAL, "needed", "total", "high", limits=[("net", 0, 50), ("tax", 0, 50), ("total", None, 5)])
        self.check_needed(TOTAL, "needed", "total", "high", limits=[("net", 0, 50), ("total", None, 5)])
        self.check_needed(TOTAL, "needed", "total", "high", limits=[("total", None, 1000)])
        self.check_needed(TOTAL, "needed", "total", "low", limits=[("total", -1000, 1000)])
        self.check_needed(TOTAL, "needed", "tax", "low", limits=[("tax", 0, 5)], wishes=[("total", 7)])

    def test_bounds_that_nothing_keeps(self):
        """The bound itself may be impossible beside the others: then it is needed."""
        self.check_needed(TOTAL, "needed", "total", "low", limits=[("net", 0, 1), ("tax", 0, 1), ("total", 3, None)])
        self.check_needed(DOUBLE, "needed", "a", "low", limits=[("a", 4, 5)], held=["b"])

    def test_a_refusal_comes_first(self):
        limits = [("a", 5, None), ("b", None, 6)]
        self.check_needed(DOUBLE, "needed", "a", "low", limits=limits)
        self.check_needed(DOUBLE, "refused", "a", "high", limits=[("a", 5, 6), ("b", None, 6)])
        # Here the bound follows, too.
        lists = {"limits": [("a", 0, 7)], "wishes": [("b", 9)], "held": ["b"]}
        self.check_needed(DOUBLE, "refused", "a", "low", **lists)
        weights = ((("formula", "b"), (-1, 2)), (("wish", "b"), (1, 2)))
        self.assertIs(is_spare(DOUBLE, "a", "low", weights, **lists), True)

    def test_random_sheets(self):
        source = random.Random(25)
        counts = {"refused": 0, "spare": 0, "needed": 0}
        for _ in range(500):
            sheet = cases.random_sheet(source, source.randrange(1, 4), source.randrange(3))
            lists = cases.random_lists(source, sheet)
            for name, low, high in lists["limits"]:
                for side, number in (("low", low), ("high", high)):
                    if number is not None:
                        word = self.word_for(sheet, name, side, number, lists)
                        counts[word] += 1
                        self.check_needed(sheet, word, name, side, **lists)
        self.assertGreater(min(counts.values()), 50)

    def word_for(self, sheet, name, side, number, lists):
        sides = cases.sides_of(sheet, **lists)
        del sides[side, name]
        ends = cases.range_of(sheet, sides, name)
        if ends is None:
            return "refused"
        low, high = ends
        if side == "low":
            return "needed" if low is None or low < cases.fraction(number) else "spare"
        return "needed" if high is None or high > cases.fraction(number) else "spare"

    def test_long_numbers(self):
        lists = cases.large_lists(199)
        lists["wishes"] = []
        for name in "agk":
            for side in ("low", "high"):
                word = limit_needed(LARGE, name, side, **lists)[0]
                self.check_needed(LARGE, word, name, side, **lists)

    def test_no_such_bound(self):
        lists = {"limits": [("a", 0, None), ("b", None, 9)], "held": ["a"], "wishes": [("b", 6)]}
        for name, side in (
            ("a", "high"), ("b", "low"), ("none", "low"), ("sum", "high"), ("a", "held"), ("b", "wish"),
            ("b", "formula"),
            *[("a", value) for value in (*ODD_VALUES, "Low", ("low",), ["low"], ("low", "a"))],
            *[(name, "low") for name in NO_NAMES],
        ):
            fields = {"condition": (side, name)}
            self.check_error(errors.UnknownCondition, fields, limit_needed, DOUBLE, name, side, **lists)
            self.check_error(errors.UnknownCondition, fields, is_spare, DOUBLE, name, side, None, **lists)

    def test_the_lists_are_checked_first(self):
        self.check_lists(DOUBLE, limit_needed, DOUBLE, "none", None)
        self.check_lists(DOUBLE, is_spare, DOUBLE, "none", None, ())


class SpareTest(Case):

    LIMITS = [("a", 0, 5), ("b", None, 12)]
    GOOD = ((("formula", "b"), (-1, 1)), (("high", "a"), (2, 1)))

    def check(self, weights, expected, limits=None, **lists):
        with self.subTest(weights=weights):
            limits = self.LIMITS if limits is None else limits
            self.assertIs(is_spare(DOUBLE, "b", "high", weights, limits=limits, **lists), expected)

    def test_weights_that_show_it(self):
        self.check(self.GOOD, True)
        self.check(list(self.GOOD), True)
        self.check(self.GOOD, True, limits=[("a", 0, 6), ("b", None, 12)])
        three = (("high", "a"), (3, 1)), (("low", "a"), (1, 1))
        self.check((self.GOOD[0], *three), True, limits=[("a", 3, 5), ("b", 3, 12)])

    def test_weights_with_one_thing_changed(self):
        first, second = self.GOOD
        for weights in (
            (), (first,), (second,), (second, first), (first, (("high", "a"), (1, 1))),
            (first, (("high", "a"), (3, 1))),
            (first, (("high", "a"), (-2, 1))), ((("formula", "b"), (1, 1)), second), (first, (("low", "a"), (2, 1))),
            (first, second, (("low", "a"), (1, 1))), (first, second, second), (first, (("high", "b"), (2, 1))),
            ((("formula", "b"), -1), second), (first, [("high", "a"), (2, 1)]), (first, (["high", "a"], (2, 1))),
            (first, (("high", "a"), [2, 1])), (first, (("high", "a"), (4, 2))), (first, (("high", "a"), 2)),
            (first, second, (("wish", "a"), (1, 1))), (first, second, None), (first, (("held", "a"), (2, 1))),
        ):
            self.check(weights, False)
        self.check(self.GOOD, False, limits=[("a", 0, (61, 10)), ("b", None, 12)])
        self.check(self.GOOD, False, limits=[("a", 0, None), ("b", None, 12)])
        self.check((first, (("high", "a"), (3, 1)), (("low", "a"), (1, 1))), False, limits=[("a", 2, 5), ("b", 3, 12)])

    def test_the_bound_itself_may_not_be_among_them(self):
        self.check(((("high", "b"), (1, 1)),), False)
        self.check(((("formula", "b"), (-1, 2)), (("high", "a"), (1, 1)), (("high", "b"), (1, 2))), False)
        # The other bound of the same limit may.
        weights = ((("formula", "b"), (-2, 1)), (("high", "a"), (4, 1)), (("low", "b"), (1, 1)))
        self.check(weights, True, limits=[("a", 0, 5), ("b", 8, 12)])

    def test_other_values(self):
        for value in ODD_VALUES:
            self.check(value, False)

    def test_where_a_refusal_exists(self):
        self.check(self.GOOD, True, wishes=[("a", 1), ("b", 1)])
        self.check((), False, wishes=[("a", 1), ("b", 1)])


if __name__ == "__main__":
    unittest.main()
