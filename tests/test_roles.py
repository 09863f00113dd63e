"""[39], [40] and [41]: which cells can be the inputs."""

import itertools
import random

import cases
from cases import LARGE, LONG, NO_NAMES, PAIR, TOTAL, Case

from backsheet import errors
from backsheet.formulas import parse_formula
from backsheet.forms import form_text, is_form, names_in
from backsheet.moves import is_move
from backsheet.roles import determined, exchange, independent, rebased
from backsheet.sheets import Sheet, is_table

# b never changes, c and d are multiples of a, and e is a sum.
ODD = Sheet([("e", "formula", "a + f"), ("d", "formula", "c*2 - 7"), ("b", "formula", "a - a + 5"),
             ("c", "formula", "-3*a + b"), ("a", "input", (1, 2)), ("f", "input", 4)])
NO_INPUTS = Sheet([("a", "formula", "2"), ("b", "formula", "a*3")])


def subsets(names):
    return [each for size in range(len(names) + 1) for each in itertools.combinations(sorted(names), size)]


def ranked(sheet, names):
    return cases.rank(cases.vectors_of(sheet, sorted(set(names))))


class RolesCase(Case):

    def check_form(self, sheet, form, name):
        """A form has the value of a cell in every table."""
        self.assertTrue(is_form(form))
        for table in cases.some_tables(sheet):
            self.assertEqual(cases.value_of(form, table), cases.fractions_of(table)[name])

    def check_tie(self, sheet, form, names):
        """A form with a term names only cells among names and is 0 in every table."""
        self.assertTrue(is_form(form) and form[0] != () and set(names_in(form)) <= set(names))
        for table in cases.some_tables(sheet):
            self.assertEqual(cases.value_of(form, table), 0)

    def check_move(self, sheet, move, kept):
        """A move keeps cells: it leads from tables to tables."""
        self.assertIsInstance(move, tuple)
        self.assertIs(is_move(sheet, move, held=[name for name in kept]), True)
        for table in cases.some_tables(sheet)[:3]:
            changes = cases.fractions_of(move)
            values = cases.fractions_of(table)
            moved = tuple([(name, cases.pair(values[name] + changes.get(name, 0))) for name in values])
            self.assertTrue(is_table(sheet, moved))
            self.assertTrue(all(dict(moved)[name] == dict(table)[name] for name in kept))

    def check_same_tables(self, one, other):
        """Each table of one sheet is a table of the other, and the other way round."""
        for sheet, second in ((one, other), (other, one)):
            for table in cases.some_tables(sheet):
                numbers = dict(table)
                again = tuple([(name, numbers[name]) for name in second.cell_names()])
                self.assertTrue(is_table(second, again))


class DeterminedTest(RolesCase):

    def check(self, sheet, names, name):
        answer = determined(sheet, names, name)
        word, found = answer
        self.assertEqual(word, "form" if cases.is_fixed(sheet, sorted(set(names)), name) else "move")
        if word == "form":
            self.assertTrue(set(names_in(found)) <= set(names))
            self.check_form(sheet, found, name)
        else:
            self.check_move(sheet, found, names)
            self.assertIn(name, dict(found))
        for given in (list(names), tuple(names)):
            self.assertEqual(determined(sheet=sheet, names=given, name=name), answer)
        self.assertEqual(determined(sheet, [*names, *names], name)[0], word)
        return answer

    def test_both_answers(self):
        self.assertEqual(self.check(TOTAL, ["net", "total"], "tax"),
                         ("form", ((("net", (-1, 1)), ("total", (1, 1))), (0, 1))))
        self.assertEqual(self.check(TOTAL, ["net"], "tax")[0], "move")
        for sheet in (TOTAL, PAIR, ODD, NO_INPUTS):
            for names in subsets(sheet.cell_names()):
                for name in sheet.cell_names():
                    self.check(sheet, names, name)

    def test_no_names_and_names_twice(self):
        self.assertEqual(self.check(ODD, [], "b"), ("form", ((), (5, 1))))
        self.assertEqual(self.check(ODD, [], "a")[0], "move")
        self.assertEqual(self.check(ODD, ["c", "c"], "a"), ("form", ((("c", (-1, 3)),), (5, 3))))
        self.assertEqual(self.check(NO_INPUTS, (), "b"), ("form", ((), (6, 1))))

    def test_the_name_among_the_names(self):
        for names in (["net"], ["net", "tax"], ["total", "net", "tax"]):
            self.assertEqual(self.check(TOTAL, names, "net")[0], "form")

    def test_random_sheets(self):
        source = random.Random(39)
        counts = {"form": 0, "move": 0}
        for _ in range(200):
            sheet = cases.random_sheet(source, source.randrange(1, 5), source.randrange(5))
            names = source.sample(sheet.cell_names(), source.randrange(len(sheet) + 1))
            counts[self.check(sheet, names, source.choice(sheet.cell_names()))[0]] += 1
        self.assertGreater(min(counts.values()), 40)

    def test_a_large_sheet(self):
        for names in ("abcde", "ghijkl", "acegik", "bdfhjl", "ghijkla"):
            for name in "abgl":
                self.check(LARGE, list(names), name)

    def test_unknown_cells(self):
        for name in NO_NAMES:
            fields = {"name": name}
            self.check_error(errors.UnknownCell, fields, determined, TOTAL, ["net", name, "other"], "nil")
            self.check_error(errors.UnknownCell, fields, determined, TOTAL, ["net", "net"], name)
            self.check_error(errors.UnknownCell, fields, independent, TOTAL, ["net", name, "other"])
            self.check_error(errors.UnknownCell, fields, independent, PAIR, (name,))
            self.check_error(errors.UnknownCell, fields, rebased, TOTAL, ["net", name, "other"])
            self.check_error(errors.UnknownCell, fields, rebased, TOTAL, ["net", "tax", "total", name])


class IndependentTest(RolesCase):

    def check(self, sheet, names):
        answer = independent(sheet, names)
        word, found = answer
        different = sorted(set(names))
        self.assertEqual(word, "free" if ranked(sheet, names) == len(different) else "tie")
        if word == "tie":
            self.check_tie(sheet, found, names)
        else:
            self.assertEqual((found.__class__, len(found)), (tuple, len(different)))
            for name, move in zip(different, found):
                self.check_move(sheet, move, [each for each in different if each != name])
                self.assertEqual(dict(move)[name], (1, 1))
        for given in (list(names), tuple(names)):
            self.assertEqual(independent(sheet=sheet, names=given), answer)
        self.assertEqual(independent(sheet, [*names, *names])[0], word)
        return answer

    def test_both_answers(self):
        self.assertEqual(self.check(TOTAL, ["tax", "net"]),
                         ("free", ((("net", (1, 1)), ("total", (1, 1))), (("tax", (1, 1)), ("total", (1, 1))))))
        self.assertEqual(self.check(TOTAL, ["total", "net"])[1],
                         ((("net", (1, 1)), ("tax", (-1, 1))), (("tax", (1, 1)), ("total", (1, 1)))))
        self.assertEqual(self.check(TOTAL, ["tax", "net", "total"])[0], "tie")
        for sheet in (TOTAL, PAIR, ODD, NO_INPUTS):
            for names in subsets(sheet.cell_names()):
                self.check(sheet, names)
                self.check(sheet, names[::-1])

    def test_no_names_and_names_twice(self):
        for sheet in (TOTAL, ODD, NO_INPUTS, Sheet()):
            self.assertEqual(self.check(sheet, []), ("free", ()))
        self.assertEqual(self.check(TOTAL, ["net", "net"])[0], "free")
        self.assertEqual(len(self.check(TOTAL, ["total", "net", "total"])[1]), 2)

    def test_cells_of_one_value_and_multiples(self):
        self.assertEqual(self.check(ODD, ["b"])[0], "tie")
        self.assertEqual(self.check(ODD, ["b", "e", "f"])[0], "tie")
        self.assertEqual(self.check(ODD, ["c", "d"])[0], "tie")
        self.assertEqual(self.check(ODD, ["d", "e"])[0], "free")
        self.assertEqual(self.check(NO_INPUTS, ["b"])[0], "tie")
        zero = Sheet([("a", "formula", "0")])
        word, form = self.check(zero, ["a"])
        self.assertEqual((word, names_in(form)), ("tie", ("a",)))

    def test_random_sheets(self):
        source = random.Random(40)
        counts = {"free": 0, "tie": 0}
        for _ in range(200):
            sheet = cases.random_sheet(source, source.randrange(1, 6), source.randrange(5))
            names = source.sample(sheet.cell_names(), source.randrange(len(sheet) + 1))
            counts[self.check(sheet, names)[0]] += 1
        self.assertGreater(min(counts.values()), 40)

    def test_a_large_sheet(self):
        for names in ("abcdef", "ghijkl", "acegik", "bdfhjl", "abcdefg", "ghi", "l"):
            self.check(LARGE, list(names))


class ExchangeTest(RolesCase):

    def check(self, sheet, name, computed):
        before = sheet.rows()
        answer = exchange(sheet, name, computed)
        word, found = answer
        self.assertEqual(word, "done" if name in sheet.drivers_of(computed) else "kept")
        if word == "kept":
            self.check_move(sheet, found, [computed, *[each for each in sheet.input_names() if each != name]])
            self.assertEqual(dict(found)[name], (1, 1))
        else:
            self.check_done(sheet, name, computed, found)
        self.assertEqual(sheet.rows(), before)
        self.assertEqual(exchange(sheet=sheet, name=name, computed=computed), answer)
        return found

    def check_done(self, sheet, name, computed, changed):
        self.assertEqual(changed.cell_names(), sheet.cell_names())
        for row, other in zip(sheet.rows(), changed.rows()):
            if row[0] == computed:
                self.assertEqual(other, (computed, "input", sheet.value_of(computed)))
            elif row[0] == name:
                form = changed.form_of(name)
                self.assertEqual(other, (name, "formula", form_text(form)))
                self.assertTrue(set(names_in(form)) <= set(changed.input_names()))
            else:
                self.assertEqual(row, other)
        self.assertEqual(changed.own_table(), sheet.own_table())
        self.check_same_tables(sheet, changed)
        word, again = exchange(changed, computed, name)
        self.assertEqual((word, again.own_table()), ("done", sheet.own_table()))
        self.assertEqual((again.input_names(), again.computed_names()), (sheet.input_names(), sheet.computed_names()))
        self.assertEqual(again.form_of(computed), sheet.form_by_inputs(computed))
        self.check_same_tables(sheet, again)

    def test_example(self):
        changed = self.check(TOTAL, "tax", "total")
        self.assertEqual(changed.rows(), (("net", "input", (100, 1)), ("tax", "formula", "-net + total"),
                                          ("total", "input", (120, 1))))
        self.assertEqual(exchange(changed, "total", "tax"), ("done", Sheet([
            ("net", "input", 100), ("tax", "input", 20), ("total", "formula", "net + tax")])))

    def test_all_pairs(self):
        for sheet in (TOTAL, PAIR, ODD, LARGE):
            for name in sheet.input_names():
                for computed in sheet.computed_names():
                    self.check(sheet, name, computed)

    def test_inputs_that_the_form_by_inputs_does_not_name(self):
        self.assertEqual(self.check(ODD, "f", "d"), (("e", (1, 1)), ("f", (1, 1))))
        self.assertEqual(self.check(ODD, "a", "b"), (("a", (1, 1)), ("c", (-3, 1)), ("d", (-6, 1)), ("e", (1, 1))))
        # The form names x and y, but in x the input has cancelled with the one in y.
        sheet = Sheet([("z", "formula", "x - y"), ("x", "formula", "a + b"), ("y", "formula", "a - b"),
                       ("a", "input", 1), ("b", "input", 5)])
        self.assertEqual(self.check(sheet, "a", "z"), (("a", (1, 1)), ("x", (1, 1)), ("y", (1, 1))))
        self.assertEqual(self.check(sheet, "b", "z").rows()[0], ("z", "input", (10, 1)))
        self.assertEqual(self.check(sheet, "b", "z").rows()[4], ("b", "formula", "1/2*z"))
        self.assertEqual(self.check(sheet, "a", "y").rows()[3], ("a", "formula", "b + y"))

    def test_the_order_of_the_rows_and_the_texts_of_the_others_stay(self):
        sheet = Sheet([("c", "formula", " 2*d "), ("d", "formula", "(a + b) / 1"), ("a", "input", (1, 3)),
                       ("b", "input", 2)])
        changed = self.check(sheet, "a", "c")
        self.assertEqual(changed.rows(), (("c", "input", (14, 3)), ("d", "formula", "(a + b) / 1"),
                                          ("a", "formula", "-b + 1/2*c"), ("b", "input", (2, 1))))

    def test_random_sheets(self):
        source = random.Random(41)
        counts = {"done": 0, "kept": 0}
        while min(counts.values()) < 40:
            sheet = cases.random_sheet(source, source.randrange(1, 5), source.randrange(1, 5))
            name, computed = source.choice(sheet.input_names()), source.choice(sheet.computed_names())
            self.check(sheet, name, computed)
            counts[exchange(sheet, name, computed)[0]] += 1

    def test_the_order_of_the_exceptions(self):
        for name in NO_NAMES:
            for other in ("net", "total", *NO_NAMES):
                self.check_error(errors.UnknownCell, {"name": name}, exchange, TOTAL, name, other)
            for other in ("net", "total"):
                self.check_error(errors.UnknownCell, {"name": name}, exchange, TOTAL, other, name)
        self.check_error(errors.NotInput, {"name": "total"}, exchange, TOTAL, "total", "net")
        self.check_error(errors.NotInput, {"name": "total"}, exchange, TOTAL, "total", "total")
        self.check_error(errors.NotComputed, {"name": "tax"}, exchange, TOTAL, "net", "tax")
        self.check_error(errors.NotComputed, {"name": "net"}, exchange, TOTAL, "net", "net")


class RebasedTest(RolesCase):

    def check(self, sheet, names):
        before = sheet.rows()
        answer = rebased(sheet, names)
        word, found = answer
        different = set(names)
        expected = "tie" if ranked(sheet, names) < len(different) else \
            "move" if len(different) < len(sheet.input_names()) else "done"
        self.assertEqual(word, expected)
        if word == "tie":
            self.check_tie(sheet, found, names)
        elif word == "move":
            self.check_move(sheet, found, sorted(different))
            self.assertNotEqual(found, ())
        else:
            self.check_done(sheet, different, found)
        self.assertEqual(sheet.rows(), before)
        for given in (list(names), tuple(names)):
            self.assertEqual(rebased(sheet=sheet, names=given), answer)
        return found

    def check_done(self, sheet, names, changed):
        self.assertEqual(changed.cell_names(), sheet.cell_names())
        self.assertEqual(set(changed.input_names()), names)
        for name, kind, content in changed.rows():
            if kind == "input":
                self.assertEqual(content, sheet.value_of(name))
            else:
                form = changed.form_by_inputs(name)
                self.assertEqual((content, changed.form_of(name)), (form_text(form), form))
                self.assertEqual(parse_formula(content), form)
        self.assertEqual(changed.own_table(), sheet.own_table())
        self.check_same_tables(sheet, changed)

    def test_done(self):
        self.assertEqual(self.check(TOTAL, ["net", "tax"]), TOTAL)
        self.assertEqual(self.check(TOTAL, ["total", "tax"]).rows(),
                         (("net", "formula", "-tax + total"), ("tax", "input", (20, 1)), ("total", "input", (120, 1))))
        for names in (["tax", "total"], ["total", "tax", "total"], ("tax", "tax", "total")):
            self.assertEqual(self.check(TOTAL, names), self.check(TOTAL, ["total", "tax"]))
        same = self.check(ODD, ["f", "a"])
        self.assertEqual(same.rows()[:4], (("e", "formula", "a + f"), ("d", "formula", "-6*a + 3"),
                                           ("b", "formula", "5"), ("c", "formula", "-3*a + 5")))

    def test_ties_come_ahead_of_moves(self):
        self.check(TOTAL, ["net", "tax", "total"])
        self.check(ODD, ["b"])
        self.check(ODD, ["c", "d"])
        self.assertEqual(rebased(ODD, ["a", "c"])[0], "tie")
        self.assertEqual(rebased(ODD, ["a"])[0], "move")
        self.assertEqual(rebased(LARGE, ["a", "b", "g"])[0], "tie")

    def test_all_sets(self):
        for sheet in (TOTAL, PAIR, ODD, NO_INPUTS):
            for names in subsets(sheet.cell_names()):
                self.check(sheet, names)

    def test_sheets_without_inputs_or_rows(self):
        self.assertEqual(rebased(Sheet(), []), ("done", Sheet()))
        self.assertEqual(self.check(NO_INPUTS, []).rows(), (("a", "formula", "2"), ("b", "formula", "6")))
        self.assertEqual(rebased(NO_INPUTS, ["a"])[0], "tie")
        self.assertEqual(rebased(TOTAL, [])[0], "move")

    def test_long_numbers(self):
        sheet = Sheet([("a", "input", LONG), ("b", "input", (1, LONG)), ("c", "formula", "a/7 - 3*b"),
                       ("d", "formula", "c + 0.001*a")])
        self.check(sheet, ["c", "d"])
        self.check(sheet, ["d", "b"])

    def test_random_sheets(self):
        source = random.Random(42)
        counts = {"done": 0, "tie": 0, "move": 0}
        while min(counts.values()) < 30:
            inputs = source.randrange(1, 5)
            sheet = cases.random_sheet(source, inputs, source.randrange(5))
            count = source.choice([inputs, inputs, source.randrange(len(sheet) + 1)])
            names = source.sample(sheet.cell_names(), count)
            self.check(sheet, names)
            counts[rebased(sheet, names)[0]] += 1

    def test_a_large_sheet(self):
        for names in ("abcdef", "acegik", "ghijkl", "bdfhjl", "abc", "ghijla"):
            self.check(LARGE, list(names))


if __name__ == "__main__":
    cases.unittest.main()
