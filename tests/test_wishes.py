"""[33] and [34]: which of several wishes can be kept together; and [19] once more, wherever wishes are passed."""

import itertools
import random

import cases
from cases import LARGE, LONG, PAIR, TOTAL, Case

from backsheet import errors
from backsheet.changes import is_solution, solve
from backsheet.conditions import is_refusal
from backsheet.sheets import Sheet
from backsheet.wishes import largest_wishes, smallest_clashes, wishes_in_order

EXAMPLE = [("net", 50), ("tax", 50), ("total", 90)]


def subsets(names):
    """All sets of names, smaller sets first, as ascending tuples in ascending order."""
    return [each for size in range(len(names) + 1) for each in itertools.combinations(sorted(names), size)]


def some_of(wishes, names):
    return [wish for wish in wishes if wish[0] in names]


class WishesCase(Case):

    def check_refusal(self, sheet, weights, wishes, lists):
        """Weights are a refusal of just these wishes, with held cells and limits."""
        self.assertIs(is_refusal(sheet, weights, wishes=wishes, **lists), True)
        total = cases.sum_of(cases.sides_of(sheet, wishes, **lists), weights)
        self.assertTrue(list(total) == [""] and total[""] < 0)

    def check_sets(self, sheet, wishes, possible, **lists):
        """The answers are those that belong to the sets that are possible."""
        names = [name for name, _ in wishes]
        largest = [each for each in possible if not any(set(each) < set(other) for other in possible)]
        largest = tuple(sorted(largest, key=lambda each: (-len(each), each)))
        clashes = [each for each in subsets(names) if each not in possible
                   and all(each[:at] + each[at + 1:] in possible for at in range(len(each)))]
        self.assertEqual(largest_wishes(sheet, wishes, **lists), largest)
        found = smallest_clashes(sheet, wishes, **lists)
        self.assertIsInstance(found, tuple)
        self.assertEqual([each for each, _ in found], clashes)
        for each, weights in found:
            self.check_refusal(sheet, weights, some_of(wishes, each), lists)
        for each in subsets(names):
            contains = any(set(clash) <= set(each) for clash, _ in found)
            self.assertEqual(each in possible, not contains)
        return largest, tuple(clashes)

    def check_order(self, sheet, wishes, possible, **lists):
        """The entries are those that belong to the sets that are possible."""
        entries = wishes_in_order(sheet, wishes, **lists)
        self.assertEqual((entries.__class__, len(entries)), (tuple, len(wishes)))
        kept = []
        for (name, _), entry in zip(wishes, entries):
            if tuple(sorted([*kept, name])) in possible:
                self.assertEqual(entry, ("kept", name))
                kept.append(name)
            else:
                self.assertEqual((entry[:2], len(entry)), (("refused", name), 3))
                self.check_refusal(sheet, entry[2], some_of(wishes, [*kept, name]), lists)
        return tuple(kept)

    def check(self, sheet, wishes, **lists):
        """All answers are right, by elimination for each set of the wishes."""
        possible = [each for each in subsets([name for name, _ in wishes])
                    if cases.is_possible(sheet, cases.sides_of(sheet, some_of(wishes, each), **lists))]
        found = self.check_sets(sheet, wishes, possible, **lists)
        other = list(wishes)[::-1]
        self.assertEqual(self.check_sets(sheet, other, possible, **lists), found)
        tuples = {word: tuple(lists[word]) for word in lists}
        for call in (largest_wishes, smallest_clashes, wishes_in_order):
            self.assertEqual(call(sheet=sheet, wishes=tuple(wishes), **tuples), call(sheet, wishes, **lists))
        return (*found, self.check_order(sheet, wishes, possible, **lists),
                self.check_order(sheet, other, possible, **lists))


class SetsTest(WishesCase):

    def test_example(self):
        largest, clashes, kept, backwards = self.check(TOTAL, EXAMPLE)
        self.assertEqual(largest, (("net", "tax"), ("net", "total"), ("tax", "total")))
        self.assertEqual(clashes, (("net", "tax", "total"),))
        self.assertEqual((kept, backwards), (("net", "tax"), ("total", "tax")))
        self.assertEqual([entry[:2] for entry in wishes_in_order(TOTAL, EXAMPLE)],
                         [("kept", "net"), ("kept", "tax"), ("refused", "total")])

    def test_wishes_that_can_all_be_kept(self):
        wishes = [("tax", 30), ("total", 90), ("net", 60)]
        self.assertEqual(self.check(TOTAL, wishes), ((("net", "tax", "total"),), (), ("tax", "total", "net"),
                                                     ("net", "total", "tax")))
        self.assertEqual(self.check(TOTAL, [("total", 120)], held=["net", "tax"])[0], (("total",),))

    def test_no_wishes(self):
        self.assertEqual(self.check(TOTAL, []), (((),), (), (), ()))
        self.assertEqual(self.check(TOTAL, (), held=["net"], limits=[("net", 0, 100)]), (((),), (), (), ()))
        self.assertEqual(self.check(Sheet(), []), (((),), (), (), ()))

    def test_one_wish(self):
        self.assertEqual(self.check(TOTAL, [("total", 7)]), ((("total",),), (), ("total",), ("total",)))
        self.assertEqual(self.check(TOTAL, [("total", 7)], limits=[("total", 8, None)]), (((),), (("total",),), (), ()))

    def test_a_wish_for_a_held_cell(self):
        self.assertEqual(self.check(TOTAL, [("net", 99), ("tax", 1)], held=["net"])[:2], ((("tax",),), (("net",),)))
        self.assertEqual(self.check(TOTAL, [("net", 100), ("tax", 1)], held=["net"])[:2], ((("net", "tax"),), ()))
        found = self.check(TOTAL, [("tax", 1), ("net", 2), ("total", 120)], held=["total", "total"])
        self.assertEqual(found[:2], ((("net", "total"), ("tax", "total")), (("net", "tax"),)))

    def test_none_can_be_kept(self):
        limits = [(name, -1, 9) for name in ("net", "tax", "total")]
        found = self.check(TOTAL, EXAMPLE, limits=limits)
        self.assertEqual(found, (((),), (("net",), ("tax",), ("total",)), (), ()))

    def test_held_cells_and_limits_that_no_table_keeps(self):
        for lists in ({"held": ["net"], "limits": [("net", 0, 99)]}, {"limits": [("total", 0, 9), ("net", 5, 9),
                                                                                 ("tax", 5, None)]}):
            for wishes in ([], [("tax", 20)], EXAMPLE):
                self.assertEqual(self.check(TOTAL, wishes, **lists), ((), ((),), (), ()))
                self.assertEqual([entry[0] for entry in wishes_in_order(TOTAL, wishes, **lists)],
                                 ["refused"] * len(wishes))

    def test_wishes_that_clash_by_twos(self):
        """Three multiples of one cell, and another cell."""
        sheet = Sheet([("a", "input", 1), ("d", "formula", "2*a"), ("c", "formula", "3*a"), ("b", "input", 4)])
        found = self.check(sheet, [("d", 1), ("b", 5), ("a", 1), ("c", 1)])
        self.assertEqual(found, ((("a", "b"), ("b", "c"), ("b", "d")), (("a", "c"), ("a", "d"), ("c", "d")),
                                 ("d", "b"), ("c", "b")))
        found = self.check(sheet, [("d", 2), ("b", 5), ("a", 1), ("c", 1)])
        self.assertEqual(found[:2], ((("a", "b", "d"), ("b", "c")), (("a", "c"), ("c", "d"))))

    def test_larger_sets_first_and_smaller_clashes_first(self):
        sheet = Sheet([("c", "formula", "a + b"), ("a", "input", 1), ("b", "input", 4), ("e", "formula", "2*d"),
                       ("d", "input", 0), ("f", "formula", "7")])
        wishes = [("f", 8), ("e", 1), ("d", 1), ("c", 1), ("b", 1), ("a", 1)]
        found = self.check(sheet, wishes)
        self.assertEqual(found[0], tuple(sorted([(*one, two) for one in (("a", "b"), ("a", "c"), ("b", "c"))
                                                 for two in "de"])))
        self.assertEqual(found[1], (("f",), ("d", "e"), ("a", "b", "c")))
        limits = [("a", None, 0), ("d", 1, 2)]
        found = self.check(sheet, wishes, limits=limits)
        self.assertEqual(found[:2], ((("b", "c", "d"),), (("a",), ("e",), ("f",))))

    def test_sets_of_different_sizes(self):
        sheet = Sheet([("s", "formula", "a + b + c + d"), *[(name, "input", 0) for name in "abcd"]])
        limits = [(name, 0, 3) for name in "abcd"]
        found = self.check(sheet, [("s", 10), ("a", 1), ("b", 2), ("c", 1), ("d", 3)], limits=limits)
        self.assertEqual(found[0], (("a", "b", "c", "d"), ("a", "d", "s"), ("b", "d", "s"), ("c", "d", "s")))
        self.assertEqual(found[1], (("a", "b", "s"), ("a", "c", "s"), ("b", "c", "s")))

    def test_random_sheets(self):
        source = random.Random(33)
        sizes = {0: 0, 1: 0, 2: 0, 3: 0}
        several = impossible = 0
        for at in range(250):
            sheet = cases.random_sheet(source, source.randrange(1, 4), source.randrange(1, 4))
            if at >= 150:
                sheet = Sheet([("c", "formula", source.choice(["a + b", "a - 2*b", "3*b - a"])), ("a", "input", 1),
                               ("b", "input", 2), ("d", "formula", source.choice(["a", "a + b", "c - b", "4"]))])
            lists = cases.random_lists(source, sheet)
            if at >= 150:
                lists.update(held=[], limits=lists["limits"][:1])
            names = source.sample(sheet.cell_names(), source.randrange(1, min(5, len(sheet)) + 1))
            lists["wishes"] = [(name, cases.near(source, sheet, name)) for name in names]
            largest, clashes, _, _ = self.check(sheet, lists.pop("wishes"), **lists)
            several += len(largest) > 1
            impossible += largest == ()
            for clash in clashes:
                sizes[len(clash)] = sizes.get(len(clash), 0) + 1
        self.assertGreater(min(sizes[size] for size in range(4)), 20)
        self.assertGreater(min(several, impossible), 20)

    def test_six_wishes_for_a_large_sheet(self):
        for digits in (20, 199):
            lists = cases.large_lists(digits)
            lists["limits"] = lists["limits"][:8]
            del lists["wishes"]
            shift = (1, 7 ** digits)
            wishes = [(name, cases.pair(cases.fraction(LARGE.value_of(name)) - cases.fraction(shift)))
                      for name in "lkbcfh"]
            found = smallest_clashes(LARGE, wishes, **lists)
            self.assertGreater(len(found), 0)
            for names, weights in found:
                self.check_refusal(LARGE, weights, some_of(wishes, names), lists)
            for names in largest_wishes(LARGE, wishes, **lists):
                self.assertEqual(solve(LARGE, some_of(wishes, names), **lists)[0], "done")
                self.assertFalse(any(set(clash) <= set(names) for clash, _ in found))

    def test_thirds_that_only_just_clash(self):
        wishes = [("a", (1, 3)), ("b", (1, LONG)), ("c", (LONG + 3, 3 * LONG))]
        self.assertEqual(self.check(PAIR, wishes)[1], ())
        wishes[2] = ("c", (LONG + 3 + 1, 3 * LONG))
        self.assertEqual(self.check(PAIR, wishes)[1], (("a", "b", "c"),))


class OrderTest(WishesCase):

    def test_a_wish_that_is_refused_because_of_one_before_it(self):
        wishes = [("net", 50), ("total", 60), ("tax", 11), ("tax", 10)]
        entries = wishes_in_order(TOTAL, wishes[:3])
        self.assertEqual([entry[:2] for entry in entries], [("kept", "net"), ("kept", "total"), ("refused", "tax")])
        self.check_refusal(TOTAL, entries[2][2], wishes[:3], {})
        # What was refused has no part in what comes behind it.
        sheet = Sheet([("a", "input", 1), ("b", "formula", "a + 1"), ("c", "formula", "a*2")])
        entries = wishes_in_order(sheet, [("a", 5), ("b", 7), ("c", 10)])
        self.assertEqual([entry[:2] for entry in entries], [("kept", "a"), ("refused", "b"), ("kept", "c")])

    def test_limits_count_from_the_first_wish_on(self):
        limits = [("net", 0, 10), ("tax", 0, 10)]
        wishes = [("total", 21), ("net", 10), ("tax", 11), ("tax", 5)]
        entries = wishes_in_order(TOTAL, wishes[:3], limits=limits)
        self.assertEqual([entry[0] for entry in entries], ["refused", "kept", "refused"])


class ListsTest(Case):
    """[19] in all functions that are passed wishes by position."""

    CALLS = (
        (largest_wishes, {}), (smallest_clashes, {}), (wishes_in_order, {}), (solve, {}),
        (is_solution, {"value": None}),
    )

    def test_the_lists_are_checked(self):
        for call, more in self.CALLS:
            self.check_lists(TOTAL, call, TOTAL, needed=("wishes",), **more)
            self.check_lists(PAIR, call, PAIR, needed=("wishes",), **more)

    def test_of_several_faults_the_first_is_raised(self):
        """Each fault is put behind good items, and all later ones stand behind it."""
        own = errors
        faults = (
            ("wishes", [("net", 1), None], own.InvalidWish, {"index": 1}),
            ("wishes", [("net", 1), ("none", 2), None], own.UnknownCell, {"name": "none"}),
            ("wishes", [("net", 1), ("net", 2), ("none", 2), None], own.DuplicateCell, {"name": "net"}),
            ("held", ["net", "none", "nil"], own.UnknownCell, {"name": "none"}),
            ("limits", [("net", 1, 2), ("net", True, 1), ("none", 1, 2)], own.InvalidLimit, {"index": 1}),
            ("limits", [("net", 1, 2), ("none", 2, 1), ("net", 2, 1)], own.UnknownCell, {"name": "none"}),
            ("limits", [("net", 1, 2), ("net", 2, 1), ("tax", 2, 1)], own.DuplicateCell, {"name": "net"}),
            ("limits", [("net", 1, 2), ("tax", 2, 1), ("net", 2, 1)], own.EmptyLimit, {"name": "tax"}),
        )
        good = {"wishes": [("total", 5)], "held": ["net", "net"], "limits": [("tax", None, None)]}
        lists = ("wishes", "held", "limits")
        for call, more in self.CALLS:
            for (one, items, kind, fields), (other, others, _, _) in itertools.product(faults, faults):
                if lists.index(one) < lists.index(other):
                    self.check_error(kind, fields, call, TOTAL, **more, **{**good, one: items, other: others})
                    self.check_error(kind, fields, call, TOTAL, **more, **{**good, one: tuple(items)})

    def test_items_that_are_no_wishes_and_no_limits(self):
        for call, more in self.CALLS:
            for value in (None, True, 5, "net", ("net",), ("net", 1, 2), ["net", 1], ("net", "1"), ("net", (2, 4)),
                          ("net", None), (None, 1), ("net", True), ("net", (1, 0)), (("net", 1),), ()):
                self.check_error(errors.InvalidWish, {"index": 1}, call, TOTAL, [("tax", 1), value], **more)
            for value in (None, True, 5, "net", ("net", 1), ("net", 1, 2, 3), ["net", 1, 2], ("net", "1", None),
                          ("net", None, (2, 4)), (None, 1, 2), ("net", False, 2), ("net", 1, ()), ()):
                limits = [("tax", 1, 2), value]
                self.check_error(errors.InvalidLimit, {"index": 1}, call, TOTAL, [], limits=limits, **more)
            for name in cases.NO_NAMES:
                self.check_error(errors.UnknownCell, {"name": name}, call, TOTAL, [(name, 1)], **more)
                self.check_error(errors.UnknownCell, {"name": name}, call, TOTAL, [], held=("tax", name), **more)
                limits = [(name, 2, 1)]
                self.check_error(errors.UnknownCell, {"name": name}, call, TOTAL, [], limits=limits, **more)


if __name__ == "__main__":
    cases.unittest.main()
