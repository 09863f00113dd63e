"""[26], [36], [37] and [38]: moves."""

import itertools
import random
import unittest
from fractions import Fraction
from math import gcd

import cases
from cases import LARGE, LONG, NO_NAMES, ODD_VALUES, PAIR, TOTAL, Case

from backsheet import errors
from backsheet.moves import elementary_moves, is_move, is_split, move_between, moved, split_move
from backsheet.sheets import Sheet

FIRST = (("net", (1, 1)), ("tax", (-1, 1)))
SECOND = (("net", (1, 1)), ("total", (1, 1)))
THIRD = (("tax", (1, 1)), ("total", (1, 1)))
GENERAL = (("net", (3, 1)), ("tax", (-1, 1)), ("total", (2, 1)))
MOVES = ((), FIRST, SECOND, THIRD, GENERAL, (("net", (1, LONG)), ("total", (1, LONG))),
    (("net", (-5, 2)), ("tax", (5, 2))))

# Values that are no moves of the sheet with net, tax and total.
NO_MOVES = (
    *ODD_VALUES, FIRST[::-1], FIRST[:1], (*FIRST, FIRST[1]), (FIRST[0], *FIRST), (*FIRST, ("total", (0, 1))),
    (("net", (1, 1)), ("tax", (0, 1)), ("total", (1, 1))), (("net", 1), ("tax", -1)),
    (("net", (2, 2)), ("tax", (-1, 1))),
    (("net", (1, 1)), ("tax", (1, 1))), (("net", (1, 1)), ("tax", (1, 1)), ("total", (1, 1))),
    (["net", (1, 1)], ("tax", (-1, 1))),
    (("net", [1, 1]), ("tax", (-1, 1))), (("net", (True, 1)), ("tax", (-1, 1))), (("net", (1, 1)), ("tax", (-1, True))),
    (("net", (1, 1), 1), ("tax", (-1, 1))), (("net",), ("tax",)), (("none", (1, 1)),), ("net", (1, 1)), ("net", "tax"),
    ((["net"], (1, 1)), ("tax", (-1, 1))), (("net", "1"), ("tax", (-1, 1))), (("net", None), ("tax", None)),
    (FIRST, SECOND),
    (("total", (1, 1)),), (("net", (-1, -1)), ("tax", (-1, 1))), {"net": (1, 1)}, (("sum", (1, 1)),),
)


class MoveTest(Case):

    def check(self, value, expected, **held):
        with self.subTest(value=value):
            self.assertIs(is_move(TOTAL, value, **held), expected)
            self.assertIs(is_move(sheet=TOTAL, value=value, **held), expected)

    def test_moves(self):
        for move in MOVES:
            self.check(move, True)
            self.check(list(move), True)
        self.assertIs(is_move(Sheet(), ()), True)
        self.assertIs(is_move(Sheet(), []), True)
        self.assertIs(is_move(PAIR, (("a", (1, 1)), ("c", (1, 1)))), True)

    def test_values_that_are_no_moves(self):
        for value in NO_MOVES:
            self.check(value, False)
        self.assertIs(is_move(Sheet(), FIRST), False)

    def test_constants_of_formulas_have_no_part(self):
        sheet = Sheet([("a", "input", 1), ("b", "formula", "2*a + 5"), ("c", "formula", "b - a*2"),
            ("d", "formula", "7")])
        self.assertIs(is_move(sheet, (("a", (1, 1)), ("b", (2, 1)))), True)
        self.assertIs(is_move(sheet, (("a", (1, 1)), ("b", (7, 1)))), False)
        self.assertIs(is_move(sheet, (("a", (1, 1)), ("b", (2, 1)), ("c", (1, 1)))), False)
        self.assertIs(is_move(sheet, (("d", (1, 1)),)), False)
        self.assertEqual(elementary_moves(sheet), ((("a", (1, 1)), ("b", (2, 1))),))

    def test_held_cells(self):
        for held, kept in (
            (["net"], (THIRD, ())), (["tax"], (SECOND, ())), (("total", "total"), (FIRST, ())), (["tax", "net"], ((),)),
            ([], (FIRST, SECOND, THIRD, GENERAL, ())),
        ):
            for move in (FIRST, SECOND, THIRD, GENERAL, ()):
                self.check(move, move in kept, held=held)

    def test_unknown_names(self):
        for name in NO_NAMES:
            for call in (is_move, split_move):
                self.check_error(errors.UnknownCell, {"name": name}, call, TOTAL, None, held=["net", name, "other"])
            self.check_error(errors.UnknownCell, {"name": name}, is_split, TOTAL, None, None,
                held=("net", name, "other"))
            self.check_error(errors.UnknownCell, {"name": name}, elementary_moves, TOTAL, held=(name, "other"))


class BetweenTest(Case):

    def test_move_between(self):
        own = TOTAL.own_table()
        for table, move in (
            (own, ()), ((("net", 101), ("tax", 19), ("total", 120)), FIRST),
            ([("net", 103), ("tax", 19), ("total", 122)], GENERAL),
            ((("net", (199, 2)), ("tax", 20), ("total", (239, 2))), (("net", (-1, 2)), ("total", (-1, 2)))),
        ):
            self.assertEqual(move_between(TOTAL, own, table), move)
            self.assertEqual(move_between(sheet=TOTAL, one=own, other=table), move)
            opposite = tuple([(name, (-top, bottom)) for name, (top, bottom) in move])
            self.assertEqual(move_between(TOTAL, list(table), list(own)), opposite)
        self.assertEqual(move_between(Sheet(), (), []), ())
        # In ascending order of the names, not in the order of the rows.
        sheet = Sheet([("b", "input", 1), ("a", "input", 2)])
        self.assertEqual(move_between(sheet, (("b", 1), ("a", 2)), (("b", 2), ("a", 4))),
            (("a", (2, 1)), ("b", (1, 1))))

    def test_values_that_are_no_tables(self):
        own = TOTAL.own_table()
        for value in (*ODD_VALUES, own[::-1], own[:2], (("net", 1), ("tax", 1), ("total", 3)), FIRST):
            self.check_error(errors.InvalidTable, {"value": value}, move_between, TOTAL, value, own)
            self.check_error(errors.InvalidTable, {"value": value}, move_between, TOTAL, own, value)
            self.check_error(errors.InvalidTable, {"value": value}, move_between, TOTAL, value, None)

    def test_moved(self):
        for factor, numbers in (
            (0, (100, 20)), ((0, 1), (100, 20)), (1, (103, 19)), (-2, (94, 22)), ((1, 2), ((203, 2), (39, 2))),
            ((-1, 3), (99, (61, 3))),
        ):
            expected = TOTAL.with_input("net", numbers[0]).with_input("tax", numbers[1])
            self.assertEqual(moved(TOTAL, GENERAL, factor), expected)
            self.assertEqual(moved(sheet=TOTAL, move=list(GENERAL), factor=factor), expected)
        self.assertEqual(moved(TOTAL, (), 5), TOTAL)
        self.assertEqual(moved(TOTAL, FIRST, LONG).value_of("net"), (100 + LONG, 1))

    def test_moved_refuses(self):
        for value in NO_MOVES:
            self.check_error(errors.InvalidMove, {"move": value}, moved, TOTAL, value, 1)
            self.check_error(errors.InvalidMove, {"move": value}, moved, TOTAL, value, None)
        for value in ODD_VALUES:
            if value not in (0, 7) or isinstance(value, bool):
                self.check_error(errors.InvalidNumber, {"value": value}, moved, TOTAL, FIRST, value)
                self.check_error(errors.InvalidNumber, {"value": value}, moved, Sheet(), (), value)


class ElementaryTest(Case):

    def check(self, sheet, **held):
        """All elementary moves are there, each one once, and nothing else."""
        found = elementary_moves(sheet, **held)
        self.assertEqual(elementary_moves(sheet=sheet, **held), found)
        supports = [tuple([name for name, _ in move]) for move in found]
        self.assertEqual(supports, sorted(set(supports)))
        for move in found:
            self.assertIs(is_move(sheet, move, **held), True)
            tops = [number[0] for _, number in move]
            self.assertTrue(all(number[1] == 1 for _, number in move) and tops[0] > 0 and gcd(*tops) == 1)
        free = [name for name in sorted(sheet.cell_names()) if name not in held.get("held", ())]
        if len(free) < 8:
            expected = []
            for cells in [each for size in range(1, len(free) + 1) for each in itertools.combinations(free, size)]:
                smaller = [[each for each in cells if each != name] for name in cells]
                if cases.dimension(sheet, cells) == 1 and all(cases.dimension(sheet, each) == 0 for each in smaller):
                    expected.append(cells)
            self.assertEqual(supports, sorted(expected))
        return found

    def test_examples(self):
        self.assertEqual(self.check(TOTAL), (FIRST, SECOND, THIRD))
        self.assertEqual(self.check(TOTAL, held=["total"]), (FIRST,))

    def test_held_cells(self):
        self.assertEqual(self.check(TOTAL, held=("net",)), (THIRD,))
        self.assertEqual(self.check(TOTAL, held=["net", "tax", "net"]), ())
        self.assertEqual(self.check(TOTAL, held=["net", "tax", "total"]), ())

    def test_sheets_without_moves(self):
        self.assertEqual(self.check(Sheet()), ())
        self.assertEqual(self.check(Sheet([("a", "formula", "1"), ("b", "formula", "a")])), ())

    def test_ratios_become_integers_without_a_common_divisor(self):
        sheet = Sheet([("b", "input", 1), ("a", "formula", "-b*2/3"), ("c", "formula", "b*4"), ("d", "input", 0)])
        self.assertEqual(self.check(sheet), (
            (("a", (2, 1)), ("b", (-3, 1)), ("c", (-12, 1))), (("d", (1, 1)),),
        ))
        sheet = Sheet([("z", "input", 1), ("a", "formula", "-z/6"), ("m", "formula", "z/4 + y"), ("y", "input", 1)])
        self.assertEqual(self.check(sheet), (
            (("a", (2, 1)), ("m", (-3, 1)), ("z", (-12, 1))), (("a", (2, 1)), ("y", (3, 1)), ("z", (-12, 1))),
            (("m", (1, 1)), ("y", (1, 1))),
        ))

    def test_random_sheets(self):
        source = random.Random(37)
        for _ in range(150):
            sheet = cases.random_sheet(source, source.randrange(1, 5), source.randrange(4))
            self.check(sheet)
            self.check(sheet, held=source.sample(sheet.cell_names(), 1))

    def test_a_large_sheet(self):
        found = self.check(LARGE)
        self.assertGreater(len(found), 100)
        for move in found[::29]:
            cells = [name for name, _ in move]
            self.assertEqual(cases.dimension(LARGE, cells), 1)
        self.assertGreater(len(found), len(self.check(LARGE, held=["j"])))


class SplitTest(Case):

    def check(self, sheet, move, **held):
        parts = split_move(sheet, move, **held)
        self.assertEqual(split_move(sheet=sheet, move=list(move), **held), parts)
        self.assertIsInstance(parts, tuple)
        self.assertLessEqual(len(parts), len(move))
        elementary = elementary_moves(sheet, **held)
        directions = {name: number[0] > 0 for name, number in move}
        total = {}
        seen = []
        for each, (top, bottom) in parts:
            opposite = tuple([(name, (-number[0], number[1])) for name, number in each])
            self.assertTrue(each in elementary or opposite in elementary)
            self.assertNotIn(each, seen)
            seen.append(each)
            self.assertGreater(top, 0)
            for name, number in each:
                self.assertEqual(number[0] > 0, directions[name])
                total[name] = total.get(name, 0) + Fraction(*number) * Fraction(top, bottom)
        self.assertEqual(total, cases.fractions_of(move))
        self.assertIs(is_split(sheet, move, parts, **held), True)
        self.assertIs(is_split(sheet=sheet, move=list(move), parts=list(parts), **held), True)
        self.assertIs(is_split(sheet, move, parts[::-1], **held), True)
        return parts

    def test_moves_of_one_and_of_several_elementary_moves(self):
        self.assertEqual(self.check(TOTAL, ()), ())
        self.assertEqual(self.check(TOTAL, FIRST), ((FIRST, (1, 1)),))
        self.assertEqual(self.check(TOTAL, (("net", (-5, 2)), ("tax", (5, 2)))),
            (((("net", (-1, 1)), ("tax", (1, 1))), (5, 2)),))
        self.assertEqual(len(self.check(TOTAL, GENERAL)), 2)
        self.assertEqual(self.check(Sheet(), ()), ())
        for move in MOVES:
            self.check(TOTAL, move)

    def test_held_cells(self):
        self.check(TOTAL, FIRST, held=["total", "total"])
        self.check(TOTAL, (), held=["net", "tax"])
        sheet = Sheet([("a", "input", 0), ("b", "input", 0), ("c", "input", 0), ("d", "formula", "a + b + c")])
        move = (("a", (3, 1)), ("b", (-1, 1)), ("c", (-2, 1)))
        self.check(sheet, move)
        self.check(sheet, move, held=["d"])
        self.check_error(errors.InvalidMove, {"move": move}, split_move, sheet, move, held=["a"])

    def test_random_moves(self):
        source = random.Random(38)
        for _ in range(200):
            sheet = cases.random_sheet(source, source.randrange(1, 5), source.randrange(5))
            other = sheet
            for name in sheet.input_names():
                other = other.with_input(name, cases.near(source, sheet, name))
            self.check(sheet, move_between(sheet, sheet.own_table(), other.own_table()))

    def test_large_moves(self):
        other = LARGE
        for at, name in enumerate("abcdef"):
            other = other.with_input(name, cases.pair(Fraction((-1) ** at * (LONG + at), 10 ** 199 - 1)))
        self.check(LARGE, move_between(LARGE, LARGE.own_table(), other.own_table()))

    def test_values_that_are_no_moves(self):
        for value in NO_MOVES:
            self.check_error(errors.InvalidMove, {"move": value}, split_move, TOTAL, value)
            self.check_error(errors.InvalidMove, {"move": value}, is_split, TOTAL, value, None)
        for move in (FIRST, SECOND, GENERAL):
            self.check_error(errors.InvalidMove, {"move": move}, split_move, TOTAL, move, held=["tax", "net"])
            self.check_error(errors.InvalidMove, {"move": move}, is_split, TOTAL, move, (), held=["tax", "net"])

    def test_splits_with_something_changed(self):
        one, two = (FIRST, (1, 1)), (SECOND, (2, 1))
        minus = (("net", (-1, 1)), ("tax", (1, 1)))
        self.assertIs(is_split(TOTAL, GENERAL, (one, two)), True)
        for parts in (
            (one,), (two,), (), (one, two, (THIRD, (1, 1))), (one, two, one), (one, one, two),
            (one, (SECOND, (1, 1)), (SECOND, (1, 1))),
            (one, two, (FIRST, (0, 1))), (one, (SECOND, (0, 1))), ((FIRST, (-1, 1)), two), ((minus, (-1, 1)), two),
            ((FIRST, (2, 1)), (SECOND, (1, 1)), (THIRD, (1, 1))), ((FIRST, (1, 2)), two), (one, (SECOND, (3, 1))),
            ((FIRST, 1), two), ((FIRST, (2, 2)), two), ((FIRST, [1, 1]), two), ([FIRST, (1, 1)], two),
            ((FIRST, (True, 1)), two),
            ((list(FIRST), (1, 1)), two), ((FIRST, (1, 1), 1), two), ((FIRST,), two), (FIRST, SECOND), (None, two),
            ((None, (1, 1)), two),
            (((("net", (True, 1)), ("tax", (-1, 1))), (1, 1)), two), (((("net", 1), ("tax", -1)), (1, 1)), two),
            ((GENERAL, (1, 1)),), (((("net", (2, 1)), ("tax", (-2, 1))), (1, 2)), two), ((FIRST, "1"), two),
            ((FIRST, None), two),
            (((("tax", (-1, 1)), ("net", (1, 1))), (1, 1)), two), ((("a",), (1, 1)), two), (((), (1, 1)), one, two),
        ):
            with self.subTest(parts=parts):
                self.assertIs(is_split(TOTAL, GENERAL, parts), False)
        for value in (*ODD_VALUES, GENERAL):
            self.assertIs(is_split(TOTAL, GENERAL, value), False)
        self.assertIs(is_split(TOTAL, (), ()), True)
        self.assertIs(is_split(TOTAL, [], []), True)
        self.assertIs(is_split(TOTAL, (), (one,)), False)
        self.assertIs(is_split(TOTAL, (), None), False)

    def test_parts_against_the_move(self):
        """The sum is right, but a part goes against the move, or changes a cell that the move keeps."""
        opposite = tuple([(name, (-top, bottom)) for name, (top, bottom) in THIRD])
        self.assertIs(is_split(TOTAL, SECOND, ((FIRST, (1, 1)), (THIRD, (1, 1)))), False)
        self.assertIs(is_split(TOTAL, FIRST, ((SECOND, (1, 1)), (opposite, (1, 1)))), False)
        sheet = Sheet([("a", "input", 0), ("b", "input", 0), ("c", "formula", "a + 2*b")])
        move = (("a", (2, 1)), ("b", (1, 1)), ("c", (4, 1)))
        parts = (((("a", (1, 1)), ("c", (1, 1))), (4, 1)), ((("a", (-2, 1)), ("b", (1, 1))), (1, 1)))
        self.assertIs(is_split(sheet, move, parts), False)
        parts = (
            ((("a", (1, 1)), ("c", (1, 1))), (1, 1)), ((("a", (2, 1)), ("b", (-1, 1))), (1, 2)),
            ((("b", (1, 1)), ("c", (2, 1))), (3, 2)),
        )
        self.assertIs(is_split(sheet, move, parts), False)
        self.assertIs(is_split(sheet, move, (parts[0], parts[2])), False)
        self.assertIs(is_split(sheet, move, ((parts[0][0], (2, 1)), (parts[2][0], (1, 1)))), True)
        self.check(sheet, move)

    def test_ratios_that_are_not_above_0(self):
        """The sum is right, and all parts go along with the move."""
        sheet = Sheet([("a", "input", 0), ("b", "input", 0), ("c", "input", 0), ("d", "formula", "a + b - c")])
        move = tuple([(name, (2, 1)) for name in "abcd"])
        pairs = [((one, (1, 1)), (two, (1, 1))) for one in "ab" for two in "cd"]
        for tops, expected in (
            ((1, 1, 1, 1), True), ((2, 0, 0, 2), False), ((3, -1, -1, 3), False), ((0, 2, 2, 0), False),
            ((-1, 3, 3, -1), False),
        ):
            parts = tuple([(each, (top, 1)) for each, top in zip(pairs, tops)])
            self.assertIs(is_split(sheet, move, parts), expected)
            more = tuple([part for part in parts if part[1] != (0, 1)])
            self.assertIs(is_split(sheet, move, more), min(tops) >= 0)

    def test_a_pair_too_many(self):
        """Six cells, and nine elementary moves that add up to the move."""
        rows = [(name, "input", 0) for name in "abcxy"]
        sheet = Sheet([*rows, ("z", "formula", "a + b + c - x - y")])
        move = tuple([(name, (3, 1)) for name in "abcxyz"])
        parts = tuple([(((one, (1, 1)), (two, (1, 1))), (1, 1)) for one in "abc" for two in "xyz"])
        self.assertIs(is_split(sheet, move, parts), False)
        fewer = tuple([(part, (top, 1)) for (part, _), top in zip(parts, (2, 1, 0, 0, 2, 1, 1, 0, 2)) if top])
        self.assertIs(is_split(sheet, move, fewer), True)
        self.check(sheet, move)

    def test_held_cells_of_is_split(self):
        self.assertIs(is_split(TOTAL, FIRST, ((FIRST, (1, 1)),), held=["total"]), True)
        self.assertIs(is_split(TOTAL, FIRST, ((SECOND, (1, 1)),), held=["total"]), False)


class ArgumentsTest(Case):

    def test_lists_are_the_same_after_the_call(self):
        move, held, parts = list(GENERAL), [], [(FIRST, (1, 1)), (SECOND, (2, 1))]
        one, other = list(TOTAL.own_table()), [("net", 1), ("tax", 1), ("total", 2)]
        is_move(TOTAL, move, held=held)
        move_between(TOTAL, one, other)
        moved(TOTAL, move, 3)
        split_move(TOTAL, move, held=held)
        is_split(TOTAL, move, parts, held=held)
        elementary_moves(TOTAL, held=held)
        self.assertEqual((move, held, parts), (list(GENERAL), [], [(FIRST, (1, 1)), (SECOND, (2, 1))]))
        self.assertEqual((one, other), (list(TOTAL.own_table()), [("net", 1), ("tax", 1), ("total", 2)]))


if __name__ == "__main__":
    unittest.main()
