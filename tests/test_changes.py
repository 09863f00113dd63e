"""[30], [31] and [32]: the inputs that change so that wishes are met."""

import itertools
import random
import unittest

import cases
from cases import LARGE, LONG, NO_NAMES, ODD_VALUES, PAIR, TOTAL, Case

from backsheet import errors
from backsheet.changes import attempt, is_solution, solve
from backsheet.conditions import is_refusal, keeps
from backsheet.sheets import Sheet

LIMITS = [("net", 0, 105), ("tax", 0, 28)]
WISH = [("total", 130)]


class ChangesCase(Case):

    def check_refusal(self, sheet, weights, **lists):
        self.assertTrue(is_refusal(sheet, weights, **lists))
        total = cases.sum_of(cases.sides_of(sheet, **lists), weights)
        self.assertTrue(list(total) == [""] and total[""] < 0)


class AttemptTest(ChangesCase):

    def check(self, sheet, wishes, inputs, possible, **lists):
        answer = attempt(sheet, wishes, inputs, **lists)
        word, found = answer
        self.assertEqual((word, len(answer)), ("table" if possible else "refused", 2))
        others = [name for name in sheet.input_names() if name not in inputs]
        full = {**lists, "wishes": wishes, "held": [*lists.get("held", ()), *others]}
        if possible:
            self.assertTrue(keeps(sheet, found, **full))
            self.assertTrue(cases.is_table_kept(sheet, cases.sides_of(sheet, **full), found))
        else:
            self.check_refusal(sheet, found, **full)
        tuples = {each: tuple(lists[each]) for each in lists}
        named = attempt(sheet=sheet, wishes=tuple(wishes), inputs=tuple(inputs), **tuples)
        self.assertEqual(named, answer)
        self.assertEqual(attempt(sheet, wishes, [*inputs, *inputs], **lists), answer)
        return found

    def test_example(self):
        found = self.check(TOTAL, WISH, ["tax"], True)
        self.assertEqual(found, (("net", (100, 1)), ("tax", (30, 1)), ("total", (130, 1))))

    def test_inputs_that_are_enough_and_that_are_not(self):
        for inputs, possible in (([], False), (["net"], True), (["net", "tax"], True), (["tax", "net"], True)):
            self.check(TOTAL, WISH, inputs, possible)
        for inputs in ([], ["net"], ["tax"]):
            self.check(TOTAL, [("total", 120)], inputs, True)
            self.check(TOTAL, [], inputs, True)
            self.check(TOTAL, [("net", 50), ("tax", 50)], inputs, False)
        self.check(TOTAL, WISH, ["net"], False, limits=LIMITS)
        self.check(TOTAL, WISH, ["tax"], False, limits=LIMITS)
        self.check(TOTAL, WISH, ["net", "tax"], True, limits=LIMITS)
        self.check(TOTAL, [("total", 134)], ["net", "tax"], False, limits=LIMITS)
        self.check(TOTAL, [], ["tax"], False, limits=[("net", 0, 50)])
        self.check(TOTAL, [], ["net"], True, limits=[("net", 0, 50)])

    def test_an_input_that_is_held_does_not_change_even_if_it_is_given(self):
        self.check(TOTAL, WISH, ["tax"], False, held=["tax"])
        self.check(TOTAL, WISH, ["net", "tax"], True, held=["tax"])
        self.check(TOTAL, WISH, ["net", "tax"], False, held=["tax", "net", "tax"])
        self.check(TOTAL, WISH, ["net", "tax"], False, held=["total"])
        self.check(TOTAL, [("net", 70)], ["net", "tax"], True, held=["total"])
        self.check(TOTAL, [("net", 70)], ["net"], False, held=["total"])

    def test_sheets_without_inputs(self):
        sheet = Sheet([("a", "formula", "2")])
        self.check(sheet, [("a", 2)], [], True)
        self.check(sheet, [("a", 3)], [], False)
        self.check(Sheet(), [], [], True)

    def test_the_order_of_the_exceptions(self):
        for name in NO_NAMES:
            fields = {"name": name}
            self.check_error(errors.UnknownCell, fields, attempt, TOTAL, [None], ["net", name, "total"], held=["none"])
        self.check_error(errors.NotInput, {"name": "total"}, attempt, TOTAL, [None], ["net", "total", "none"])
        self.check_error(errors.UnknownCell, {"name": "none"}, attempt, TOTAL, [None], ["none", "total"])
        self.check_lists(TOTAL, attempt, TOTAL, inputs=["tax", "tax"], needed=("wishes",))


class SolveTest(ChangesCase):

    def check(self, sheet, wishes, numbers, **lists):
        """The inputs among numbers get these, and all others stay; None stands for a refusal."""
        answer = solve(sheet, wishes, **lists)
        word, found = answer
        full = {**lists, "wishes": wishes}
        own = sheet.own_table()
        if numbers is None:
            self.assertEqual((word, len(answer)), ("refused", 2))
            self.check_refusal(sheet, found, **full)
            self.assertIs(is_solution(sheet, wishes, own, **lists), False)
        else:
            changed = sheet
            for name in numbers:
                changed = changed.with_input(name, numbers[name])
            self.assertEqual(word, "done")
            self.assertEqual(found, changed)
            self.assertEqual(found.rows(), changed.rows())
            table = found.own_table()
            self.assertTrue(keeps(sheet, table, **full))
            self.assertIs(is_solution(sheet, wishes, table, **lists), True)
            self.assertIs(is_solution(sheet, wishes, list(table), **lists), True)
            self.assertIs(is_solution(sheet, wishes, own, **lists), table == own)
        tuples = {each: tuple(lists[each]) for each in lists}
        self.assertEqual(solve(sheet=sheet, wishes=tuple(wishes), **tuples), answer)

    def test_examples(self):
        self.check(TOTAL, WISH, {"net": 110})
        self.check(TOTAL, WISH, {"tax": 30}, held=["net"])
        self.check(TOTAL, WISH, {"tax": 30}, limits=[("net", 0, 105)])
        self.check(TOTAL, WISH, {"net": 102, "tax": 28}, limits=LIMITS)

    def test_the_empty_set(self):
        self.check(TOTAL, [], {})
        self.check(TOTAL, [("total", 120)], {})
        self.check(TOTAL, [("total", 120), ("net", 100)], {}, held=["tax", "net", "total"], limits=[("tax", 20, 20)])
        self.check(Sheet(), [], {})
        sheet = Sheet([("b", "formula", " 2 * a "), ("a", "input", (1, 3))])
        self.assertEqual(solve(sheet, [])[1].rows(), sheet.rows())

    def test_no_wishes_but_limits(self):
        self.check(TOTAL, [], {"net": 90}, limits=[("net", 0, 90)])
        self.check(TOTAL, [], {"net": 130}, limits=[("net", 130, 190)])
        self.check(TOTAL, [], {"net": 80}, limits=[("total", 0, 100)])
        self.check(TOTAL, [], {"tax": 0}, limits=[("total", 0, 100)], held=["net", "net"])
        self.check(TOTAL, [], None, limits=[("total", 0, 100)], held=["net", "tax"])

    def test_the_fewest_inputs_and_of_these_the_first(self):
        sheet = Sheet([("s", "formula", "d + c + b + a"), ("d", "input", 0), ("b", "input", 0), ("c", "input", 0),
                       ("a", "input", 0)])
        self.check(sheet, [("s", 5)], {"a": 5})
        self.check(sheet, [("s", 5)], {"d": 5}, held=["a", "b", "c"])
        few = [("a", 0, 1), ("b", 0, 2), ("c", 0, 3), ("d", 0, 4)]
        self.check(sheet, [("s", 4)], {"d": 4}, limits=few)
        self.check(sheet, [("s", 5)], {"a": 1, "d": 4}, limits=few)
        self.check(sheet, [("s", (11, 2))], {"b": (3, 2), "d": 4}, limits=few)
        self.check(sheet, [("s", 6)], {"b": 2, "d": 4}, limits=few)
        self.check(sheet, [("s", 7)], {"c": 3, "d": 4}, limits=few)
        self.check(sheet, [("s", 8)], {"a": 1, "c": 3, "d": 4}, limits=few)
        self.check(sheet, [("s", 10)], {"a": 1, "b": 2, "c": 3, "d": 4}, limits=few)
        self.check(sheet, [("s", (10 * LONG + 1, LONG))], None, limits=few)
        self.check(sheet, [("s", 5), ("d", 2)], {"a": 3, "d": 2})
        self.check(sheet, [("s", 5), ("d", 0)], {"a": 5})
        self.check(sheet, [("s", 5), ("d", 5)], {"d": 5})

    def test_numbers_one_after_the_other(self):
        sheet = Sheet([("a", "input", 0), ("b", "input", 0), ("c", "input", 10), ("s", "formula", "a + b + c"),
                       ("t", "formula", "a - b")])
        self.check(sheet, [("s", 20)], {"a": 10})
        self.check(sheet, [("s", 20), ("t", 0)], {"c": 20})
        self.check(sheet, [("s", 20), ("t", 0)], {"a": 5, "b": 5}, held=["c"])
        self.check(sheet, [("s", 20), ("t", 0)], {"a": -5, "b": -5, "c": 30}, limits=[("c", 30, 40)])
        self.check(sheet, [("s", 20)], {"a": 3, "b": 7}, limits=[("a", None, 8), ("b", None, 7)], held=["c"])
        self.check(sheet, [("s", 20)], {"a": 2, "b": 8}, limits=[("a", 1, 6), ("b", 1, 8)], held=["c"])
        self.check(sheet, [("s", 0)], {"a": -3, "b": -7}, limits=[("a", -8, None), ("b", -7, None), ("c", 10, None)])
        self.check(sheet, [("s", 20), ("t", -2)], {"a": 4, "b": 6}, limits=[("a", -8, 4)])
        self.check(sheet, [("t", 4)], {"a": 2, "b": -2}, limits=[("a", -3, 3), ("b", -2, 9)])

    def test_wishes_for_inputs(self):
        self.check(TOTAL, [("net", 50)], {"net": 50})
        self.check(TOTAL, [("net", 50), ("total", 60)], {"net": 50, "tax": 10})
        self.check(TOTAL, [("net", 50), ("total", 70)], {"net": 50})
        self.check(TOTAL, [("net", 50)], {"net": 50, "tax": 70}, held=["total"])
        self.check(TOTAL, [("net", 50)], None, held=["net"])
        self.check(TOTAL, [("net", 50)], None, held=["total"], limits=[("tax", None, (69 * LONG + 1, LONG))])

    def test_held_computed_cells_keep_the_first_value(self):
        sheet = Sheet([("a", "input", 1), ("b", "input", 2), ("c", "input", 3), ("p", "formula", "a + b"),
            ("q", "formula", "b + c")])
        self.check(sheet, [("q", 9)], {"c": 7}, held=["p"])
        self.check(sheet, [("q", 9)], {"a": -3, "b": 6}, held=["p", "c"])
        self.check(sheet, [("q", 9)], {"a": -1, "b": 4, "c": 5}, held=["p"], limits=[("c", 0, 5), ("b", 0, 5)])
        self.check(sheet, [("b", 5)], {"a": -2, "b": 5, "c": 0}, held=["p", "q"])
        self.check(sheet, [("b", 5)], None, held=["p", "q", "c"])

    def test_refusals(self):
        self.check(TOTAL, [("total", 134)], None, limits=LIMITS)
        self.check(TOTAL, [("total", 121)], None, held=["tax", "net"])
        self.check(TOTAL, [("total", 121), ("net", 1), ("tax", 1)], None)
        # Only wishes, held cells and limits have a part in it, not the inputs that are not held.
        _, weights = solve(TOTAL, [("total", 134)], limits=LIMITS)
        self.assertEqual([condition for condition, _ in weights],
                         [("formula", "total"), ("high", "net"), ("high", "tax"), ("wish", "total")])

    def test_random_sheets(self):
        source = random.Random(31)
        counts = {None: 0, 0: 0, 1: 0, 2: 0, 3: 0}
        for _ in range(500):
            if source.random() < 0.5:
                sheet, lists = self.narrow_case(source)
            else:
                sheet = cases.random_sheet(source, source.choice([1, 2, 3, 3, 3]), source.randrange(1, 4))
                lists = cases.random_lists(source, sheet)
            wishes = lists.pop("wishes")
            numbers = cases.solution(sheet, wishes, **lists)
            counts[None if numbers is None else len(numbers)] += 1
            self.check(sheet, wishes, numbers and {name: cases.pair(numbers[name]) for name in numbers}, **lists)
        self.assertGreater(min(counts.values()), 10)

    def narrow_case(self, source):
        """A wish that takes several inputs, since none may go far."""
        rows = [(name, "input", source.randrange(-2, 3)) for name in "bca"]
        sheet = Sheet([("s", "formula", source.choice(["a + b + c", "2*a - b + c/2", "c - a - b"])), *rows])
        limits = []
        for name in sheet.input_names():
            own = cases.fraction(sheet.value_of(name))
            limits.append((name, cases.pair(own - source.randrange(1, 3)), cases.pair(own + source.randrange(1, 3))))
        wish = cases.fraction(sheet.value_of("s")) + source.choice([0, 1, 2, 3, 4, 5, 6, -3, -4, -5])
        return sheet, {"wishes": [("s", cases.pair(wish))], "limits": limits}

    def test_large_sheets(self):
        for digits in (20, 199):
            lists = cases.large_lists(digits)
            wishes = lists.pop("wishes")
            word, found = solve(LARGE, wishes, **lists)
            full = {**lists, "wishes": wishes}
            if word == "done":
                self.assertTrue(keeps(LARGE, found.own_table(), **full))
            else:
                self.check_refusal(LARGE, found, **full)
        wishes = [("l", 0), ("k", 0), ("g", 0)]
        self.check(LARGE, wishes, None, held=list("abcde"))
        word, found = solve(LARGE, wishes)
        self.assertEqual(word, "done")
        changed = tuple([name for name in "abcdef" if found.value_of(name) != LARGE.value_of(name)])
        self.assertEqual(attempt(LARGE, wishes, changed)[0], "table")
        for names in [each for size in range(len(changed) + 1) for each in itertools.combinations("abcdef", size)]:
            if len(names) < len(changed) or names < changed:
                self.assertEqual(attempt(LARGE, wishes, names)[0], "refused")

    def test_the_lists_are_checked(self):
        self.check_lists(TOTAL, solve, TOTAL, needed=("wishes",))
        lists = {"held": ["tax", "tax"], "limits": [("net", None, 5)]}
        wishes = [("total", 7), ("tax", 20)]
        solve(TOTAL, wishes, **lists)
        self.assertEqual((wishes, lists), ([("total", 7), ("tax", 20)],
            {"held": ["tax", "tax"], "limits": [("net", None, 5)]}))


class SolutionTest(Case):

    GOOD = (("net", (110, 1)), ("tax", (20, 1)), ("total", (130, 1)))

    def check(self, value, expected, wishes=WISH, **lists):
        with self.subTest(value=value):
            self.assertIs(is_solution(TOTAL, wishes, value, **lists), expected)
            self.assertIs(is_solution(sheet=TOTAL, wishes=wishes, value=value, **lists), expected)

    def test_the_table_itself(self):
        self.check(self.GOOD, True)
        self.check(list(self.GOOD), True)
        self.check((("net", 110), ("tax", 20), ("total", (130, 1))), True)
        self.check([("net", 102), ("tax", 28), ("total", 130)], True, limits=LIMITS)
        self.check(TOTAL.own_table(), True, wishes=[])

    def test_other_tables(self):
        self.check((("net", 100), ("tax", 30), ("total", 130)), False)
        self.check((("net", 109), ("tax", 21), ("total", 130)), False)
        self.check((("net", 105), ("tax", 25), ("total", 130)), False, limits=LIMITS)
        self.check(TOTAL.own_table(), False)
        self.check(self.GOOD, False, wishes=[])

    def test_values_that_are_no_tables(self):
        for value in (
            *ODD_VALUES, (), [], self.GOOD[::-1], self.GOOD[:2], (["net", 110], *self.GOOD[1:]),
            (("net", 110), ("tax", 20), ("total", 131)), (("net", "110"), *self.GOOD[1:]), (*self.GOOD, ("more", 1)),
        ):
            self.check(value, False)

    def test_numbers_that_look_like_integers(self):
        sheet = Sheet([("a", "input", 5)])
        self.assertIs(is_solution(sheet, [("a", 1)], (("a", True),)), False)
        self.assertIs(is_solution(sheet, [("a", 1)], (("a", 1),)), True)

    def test_where_solve_refuses(self):
        for value in (self.GOOD, TOTAL.own_table(), None, ()):
            self.check(value, False, limits=[("total", 0, 129)])

    def test_no_rows(self):
        self.assertIs(is_solution(Sheet(), [], ()), True)
        self.assertIs(is_solution(Sheet(), [], None), False)

    def test_the_lists_are_checked(self):
        self.check_lists(TOTAL, is_solution, TOTAL, value=None, needed=("wishes",))
        self.check_lists(PAIR, is_solution, PAIR, value=PAIR.own_table(), needed=("wishes",))


if __name__ == "__main__":
    unittest.main()
