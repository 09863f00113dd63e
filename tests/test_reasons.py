"""[35]: which cells fix others."""

import itertools
import random

import cases
from cases import LARGE, LONG, NO_NAMES, PAIR, TOTAL, Case

from backsheet import errors
from backsheet.forms import is_form, names_in
from backsheet.reasons import fixed_cells, releases, smallest_fixing
from backsheet.sheets import Sheet

# b never changes, c and d are multiples of a, and e is a sum.
ODD = Sheet([("e", "formula", "a + f"), ("d", "formula", "c*2 - 7"), ("b", "formula", "a - a + 5"),
             ("c", "formula", "-3*a + b"), ("a", "input", (1, 2)), ("f", "input", 4)])


def subsets(names):
    return [each for size in range(len(names) + 1) for each in itertools.combinations(sorted(names), size)]


def smallest(sets):
    """Of sets, smaller ones first, those that contain no other one."""
    return [each for each in sets if not any(set(other) < set(each) for other in sets)]


class ReasonsCase(Case):

    def check_form(self, sheet, form, name):
        """A form has the value of a cell in every table."""
        self.assertTrue(is_form(form))
        for table in cases.some_tables(sheet):
            self.assertEqual(cases.value_of(form, table), cases.fractions_of(table)[name])

    def check(self, sheet, names, name):
        """The answers are those that belong to the sets that fix the cell."""
        given = sorted(set(names))
        fixing = [each for each in subsets(given) if cases.is_fixed(sheet, each, name)]
        forms = smallest_fixing(sheet, names, name)
        self.assertIsInstance(forms, tuple)
        self.assertEqual([names_in(form) for form in forms], smallest(fixing))
        for form in forms:
            self.check_form(sheet, form, name)
        needed = [each for each in subsets(given) if tuple([one for one in given if one not in each]) not in fixing]
        found = releases(sheet, names, name)
        self.assertEqual(found, tuple(smallest(needed)))
        fixed = tuple([each for each in sheet.cell_names() if cases.is_fixed(sheet, given, each)])
        self.assertEqual(fixed_cells(sheet, names), fixed)
        self.assertTrue(set(given) <= set(fixed))
        self.assertEqual(name in fixed, forms != ())
        self.check_arguments(sheet, names, name, (fixed, forms, found))
        return forms, found

    def check_arguments(self, sheet, names, name, answers):
        """Names in another order, twice, as a tuple and as a list that stays, and arguments by name."""
        for given in (tuple(names), list(names), [*names, *names], list(names)[::-1]):
            before = list(given)
            self.assertEqual(fixed_cells(sheet=sheet, names=given), answers[0])
            self.assertEqual(smallest_fixing(sheet=sheet, names=given, name=name), answers[1])
            self.assertEqual(releases(sheet=sheet, names=given, name=name), answers[2])
            self.assertEqual(list(given), before)


class ReasonsTest(ReasonsCase):

    def test_example(self):
        forms, found = self.check(TOTAL, ["net", "total"], "tax")
        self.assertEqual(forms, (((("net", (-1, 1)), ("total", (1, 1))), (0, 1)),))
        self.assertEqual(found, (("net",), ("total",)))
        self.assertEqual(fixed_cells(TOTAL, ["net", "total"]), ("net", "tax", "total"))

    def test_inputs_and_computed_cells(self):
        for names in subsets(["net", "tax", "total"]):
            for name in ("net", "tax", "total"):
                self.check(TOTAL, names, name)
        self.assertEqual(fixed_cells(TOTAL, ["tax"]), ("tax",))
        self.assertEqual(self.check(TOTAL, ["net", "tax"], "total"),
                         ((((("net", (1, 1)), ("tax", (1, 1))), (0, 1)),), (("net",), ("tax",))))
        self.assertEqual(self.check(TOTAL, ["net"], "total"), ((), ((),)))

    def test_no_names(self):
        self.assertEqual(fixed_cells(TOTAL, []), ())
        self.assertEqual(self.check(TOTAL, (), "tax"), ((), ((),)))
        self.assertEqual(fixed_cells(ODD, ()), ("b",))
        self.assertEqual(self.check(ODD, [], "b"), ((((), (5, 1)),), ()))
        self.assertEqual(fixed_cells(Sheet(), []), ())

    def test_cells_with_one_value_in_all_tables(self):
        for names in (["b"], ["a", "b"], ["a", "c", "d"], ["f", "e"], list("abcdef")):
            self.assertEqual(self.check(ODD, names, "b"), ((((), (5, 1)),), ()))
        # Such a cell has no part in what fixes others.
        self.assertEqual(self.check(ODD, ["b", "c"], "a"), ((((("c", (-1, 3)),), (5, 3)),), (("c",),)))

    def test_a_given_cell_fixes_itself(self):
        self.assertEqual(self.check(TOTAL, ["total"], "total"), ((((("total", (1, 1)),), (0, 1)),), (("total",),)))
        forms, found = self.check(TOTAL, ["net", "tax", "total"], "total")
        self.assertEqual([names_in(form) for form in forms], [("total",), ("net", "tax")])
        self.assertEqual(found, (("net", "total"), ("tax", "total")))
        forms, found = self.check(ODD, ["a", "c", "d", "e"], "c")
        self.assertEqual([names_in(form) for form in forms], [("a",), ("c",), ("d",)])
        self.assertEqual(found, (("a", "c", "d"),))

    def test_several_smallest_sets(self):
        forms, found = self.check(ODD, ["a", "c", "d", "e", "f"], "e")
        self.assertEqual([names_in(form) for form in forms],
                         [("e",), ("a", "f"), ("c", "f"), ("d", "f")])
        self.assertEqual(found, (("e", "f"), ("a", "c", "d", "e")))
        self.assertEqual(forms[2], ((("c", (-1, 3)), ("f", (1, 1))), (5, 3)))

    def test_the_number_of_terms_comes_ahead_of_the_names(self):
        sheet = Sheet([("a", "input", 1), ("b", "input", 2), ("z", "formula", "a + b"), ("y", "formula", "2*z"),
                       ("t", "formula", "z - 1")])
        forms, found = self.check(sheet, ["a", "b", "y", "z"], "t")
        self.assertEqual([names_in(form) for form in forms], [("y",), ("z",), ("a", "b")])
        self.assertEqual(found, (("a", "y", "z"), ("b", "y", "z")))

    def test_cells_that_cancel(self):
        sheet = Sheet([("a", "input", 1), ("b", "input", 2), ("c", "formula", "a + b"), ("d", "formula", "c - b"),
                       ("e", "formula", "d - a + 3"), ("f", "formula", "a - b")])
        self.assertEqual(self.check(sheet, ["a"], "d"), ((((("a", (1, 1)),), (0, 1)),), (("a",),)))
        self.assertEqual(self.check(sheet, ["b", "c"], "e"), ((((), (3, 1)),), ()))
        self.assertEqual(self.check(sheet, ["c", "f"], "a"),
                         ((((("c", (1, 2)), ("f", (1, 2))), (0, 1)),), (("c",), ("f",))))
        for names in subsets(sheet.cell_names()):
            for name in sheet.cell_names():
                self.check(sheet, names, name)

    def test_limits_and_numbers_have_no_part(self):
        changed = TOTAL.with_input("net", (LONG, 7))
        for names in subsets(["net", "tax", "total"]):
            self.assertEqual(fixed_cells(changed, names), fixed_cells(TOTAL, names))
            self.assertEqual(smallest_fixing(changed, names, "tax"), smallest_fixing(TOTAL, names, "tax"))
            self.assertEqual(releases(changed, names, "tax"), releases(TOTAL, names, "tax"))

    def test_random_sheets(self):
        source = random.Random(35)
        several = 0
        for _ in range(250):
            sheet = cases.random_sheet(source, source.randrange(1, 5), source.randrange(7))
            names = source.sample(sheet.cell_names(), source.randrange(min(6, len(sheet)) + 1))
            forms, found = self.check(sheet, names, source.choice(sheet.cell_names()))
            several += len(forms) > 1 and len(found) > 1
        self.assertGreater(several, 10)

    def test_a_large_sheet(self):
        names = list("abcdefghijkl")
        forms = smallest_fixing(LARGE, names, "j")
        found = releases(LARGE, names, "j")
        self.assertGreater(min(len(forms), len(found)), 30)
        sets = [names_in(form) for form in forms]
        self.assertEqual(sets, sorted(set(sets), key=lambda each: (len(each), each)))
        self.assertEqual(list(found), sorted(set(found), key=lambda each: (len(each), each)))
        for form in forms[::17]:
            self.check_form(LARGE, form, "j")
            for at in range(len(names_in(form))):
                self.assertFalse(cases.is_fixed(LARGE, names_in(form)[:at] + names_in(form)[at + 1:], "j"))
        # Each smallest set that fixes the cell has a cell of each set that releases it.
        for each in sets:
            self.assertTrue(all(set(each) & set(other) for other in found))


class FaultsTest(Case):

    def test_unknown_cells(self):
        for name in NO_NAMES:
            fields = {"name": name}
            self.check_error(errors.UnknownCell, fields, fixed_cells, TOTAL, ["net", name, "other"])
            for call in (smallest_fixing, releases):
                self.check_error(errors.UnknownCell, fields, call, TOTAL, ["net", name, "other"], "tax")
                self.check_error(errors.UnknownCell, fields, call, TOTAL, ("net", name, "other"), "nil")
                self.check_error(errors.UnknownCell, fields, call, TOTAL, ["net", "net"], name)
                self.check_error(errors.UnknownCell, fields, call, PAIR, [], name)


if __name__ == "__main__":
    cases.unittest.main()
