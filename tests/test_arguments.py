"""[3] and [5]: what holds for the arguments of all functions that take a sheet."""

import copy
import unittest

from cases import PAIR, TOTAL, Case

from backsheet.changes import attempt, is_solution, solve
from backsheet.compare import follows, is_join_refusal, joined, same_tables
from backsheet.conditions import conditions_of, is_refusal, keeps, left_side, weighted_sum
from backsheet.desk import Desk, replay
from backsheet.formatting import limits_text, read_limits, read_table, read_weights, table_text, weights_text
from backsheet.moves import elementary_moves, is_move, is_split, move_between, moved, split_move
from backsheet.ranges import greatest_value, is_bound, is_endless, least_value, nearest_value, value_range
from backsheet.reasons import fixed_cells, releases, smallest_fixing
from backsheet.roles import determined, exchange, independent, rebased
from backsheet.sheets import Sheet, is_table
from backsheet.solving import is_possible, is_spare, limit_needed, table_or_refusal
from backsheet.wishes import largest_wishes, smallest_clashes, wishes_in_order

LISTS = {"wishes": [("total", 110)], "held": ["tax", "tax"], "limits": [("net", 0, 105), ("total", None, 130)]}
TABLE = [("net", 90), ("tax", (20, 1)), ("total", 110)]
WEIGHTS = [(("formula", "total"), (-1, 2)), (("high", "net"), (2, 1)), (("wish", "total"), (1, 1))]
MOVE = [("net", (1, 1)), ("tax", (-1, 1))]
ENDS = {"wishes": [], "held": [], "limits": [("a", 0, 4)]}
OTHER = TOTAL.with_row(("total", "formula", "net + 2*tax"))
SHIFTED = TOTAL.with_row(("total", "formula", "net + tax + 1"))

CALLS = (
    (is_table, {"sheet": TOTAL, "value": TABLE}),
    (conditions_of, {"sheet": TOTAL, **LISTS}),
    (left_side, {"sheet": TOTAL, "condition": ("low", "net"), **LISTS}),
    (keeps, {"sheet": TOTAL, "table": TABLE, **LISTS}),
    (weighted_sum, {"sheet": TOTAL, "weights": WEIGHTS, **LISTS}),
    (is_refusal, {"sheet": TOTAL, "weights": WEIGHTS, **LISTS}),
    (table_or_refusal, {"sheet": TOTAL, **LISTS}),
    (is_possible, {"sheet": TOTAL, **LISTS}),
    (limit_needed, {"sheet": TOTAL, "name": "total", "side": "high", **LISTS}),
    (is_spare, {"sheet": TOTAL, "name": "total", "side": "high", "weights": WEIGHTS, **LISTS}),
    (least_value, {"sheet": TOTAL, "name": "net", **LISTS}),
    (greatest_value, {"sheet": TOTAL, "name": "net", **LISTS}),
    (is_bound, {"sheet": PAIR, "name": "a", "side": "low", "answer": least_value(PAIR, "a", **ENDS), **ENDS}),
    (is_endless, {"sheet": PAIR, "name": "b", "side": "low", "answer": least_value(PAIR, "b", **ENDS), **ENDS}),
    (value_range, {"sheet": TOTAL, "name": "net", **LISTS}),
    (nearest_value, {"sheet": TOTAL, "name": "net", "number": (1, 2), **LISTS}),
    (attempt, {"sheet": TOTAL, "inputs": ["net", "net"], **LISTS}),
    (solve, {"sheet": TOTAL, **LISTS}),
    (is_solution, {"sheet": TOTAL, "value": TABLE, **LISTS}),
    (is_move, {"sheet": TOTAL, "value": MOVE, "held": ["total"]}),
    (move_between, {"sheet": TOTAL, "one": TABLE, "other": [("net", 1), ("tax", 2), ("total", 3)]}),
    (moved, {"sheet": TOTAL, "move": MOVE, "factor": (1, 3)}),
    (elementary_moves, {"sheet": TOTAL, "held": ["total", "total"]}),
    (split_move, {"sheet": TOTAL, "move": MOVE, "held": ["total"]}),
    (largest_wishes, {"sheet": TOTAL, **LISTS}),
    (smallest_clashes, {"sheet": TOTAL, **LISTS, "wishes": [("total", 110), ("net", 3)]}),
    (wishes_in_order, {"sheet": TOTAL, **LISTS, "wishes": [("total", 110), ("net", 3)]}),
    (fixed_cells, {"sheet": TOTAL, "names": ["tax", "net"]}),
    (smallest_fixing, {"sheet": TOTAL, "names": ["tax", "net", "total"], "name": "total"}),
    (releases, {"sheet": TOTAL, "names": ["tax", "net", "total"], "name": "total"}),
    (determined, {"sheet": TOTAL, "names": ["tax", "net"], "name": "total"}),
    (independent, {"sheet": TOTAL, "names": ["tax", "total"]}),
    (exchange, {"sheet": TOTAL, "name": "tax", "computed": "total"}),
    (rebased, {"sheet": TOTAL, "names": ["total", "net"]}),
    (follows, {"sheet": TOTAL, "form": ((("net", (1, 1)),), (-5, 1))}),
    (same_tables, {"one": TOTAL, "other": OTHER}),
    (joined, {"one": TOTAL, "other": OTHER}),
    (is_join_refusal, {"one": SHIFTED, "other": TOTAL, "weights": [((0, "total"), (1, 1)), ((1, "total"), (-1, 1))]}),
    (replay,
     {"sheet": TOTAL, "operations": [["hold", "net"], ("set_values", [("total", 1)]), ["limit", "tax", 0, 900]]}),
    (table_text, {"table": TABLE}),
    (limits_text, {"limits": [("net", (0, 1), None)]}),
    (weights_text, {"weights": WEIGHTS}),
    (read_table, {"text": "b = 1, a = 2"}),
    (read_limits, {"text": "b from 1 to 2, a"}),
    (read_weights, {"text": "1 wish b, 2 low a"}),
    (is_split, {"sheet": TOTAL, "move": MOVE, "parts": [(tuple(MOVE), (1, 1))], "held": ["total"]}),
)


def has_list(value):
    return isinstance(value, list) or isinstance(value, tuple) and any(has_list(part) for part in value)


def equal_value(value):
    """A tuple for a list, and another sheet that is equal."""
    if isinstance(value, Sheet):
        return Sheet(list(value.rows()))
    return tuple(value) if isinstance(value, list) else value


class ArgumentsTest(Case):

    def test_lists_are_the_same_after_the_call_and_no_list_is_returned(self):
        for call, named in CALLS:
            with self.subTest(call.__name__):
                lists = {word: value for word, value in named.items() if isinstance(value, list)}
                before = copy.deepcopy(lists)
                sheets = [value for value in named.values() if isinstance(value, Sheet)]
                rows = [sheet.rows() for sheet in sheets]
                self.assertFalse(has_list(call(**named)))
                self.assertEqual(lists, before)
                self.assertEqual([sheet.rows() for sheet in sheets], rows)

    def test_equal_arguments_give_equal_values(self):
        for call, named in CALLS:
            with self.subTest(call.__name__):
                first = call(**named)
                others = {word: equal_value(value) for word, value in named.items()}
                self.assertEqual(call(**others), first)
                self.assertEqual(call(**named), first)

    def test_what_is_asked_has_the_answer_that_the_calls_are_made_for(self):
        """Otherwise the tests above would look at refusals alone."""
        for call, named in CALLS:
            if call.__name__.startswith("is_") and call not in (is_refusal, is_spare) or call is keeps:
                self.assertIs(call(**named), True, call.__name__)

    def test_lists_that_are_changed_afterwards(self):
        rows = [("a", "input", 1), ("b", "formula", "a + 1")]
        sheet = Sheet(rows)
        limits, wishes = [("a", 0, 5)], [("b", 4)]
        word, changed = solve(sheet, wishes, limits=limits)
        rows.clear()
        limits.clear()
        wishes[0] = ("b", 9)
        self.assertEqual((word, changed.own_table()), ("done", (("a", (3, 1)), ("b", (4, 1)))))
        self.assertEqual(sheet.own_table(), (("a", (1, 1)), ("b", (2, 1))))

    def test_methods_of_a_desk_return_no_lists(self):
        desk = Desk(TOTAL)
        found = [desk.set_values([("total", 1)]), desk.limit("tax", 0, 5), desk.define("total", "net + 2*tax")]
        desk.hold("net")
        desk.mark("m")
        found += [desk.present_table(), desk.held_cells(), desk.present_limits(), desk.mark_words(), desk.history()]
        for value in found:
            self.assertIsInstance(value, tuple)
            self.assertFalse(has_list(value))

    def test_operations_of_a_desk_that_are_changed_afterwards(self):
        wishes = [("total", 1)]
        operations = [["set_values", wishes], ["hold", "net"]]
        desk = replay(TOTAL, operations)
        before = desk.history()
        wishes[0] = ("total", 2)
        operations[1][1] = "tax"
        operations.clear()
        self.assertEqual(desk.history(), before)
        self.assertEqual((desk.value_of("total"), desk.held_cells()), ((1, 1), ("net",)))


if __name__ == "__main__":
    unittest.main()
