"""[45] to [50]: the desk."""

import random

import cases
from cases import LARGE, LONG, NO_NAMES, ODD_VALUES, PAIR, TOTAL, Case

from backsheet import errors
from backsheet.changes import solve
from backsheet.conditions import is_refusal, keeps
from backsheet.desk import Desk, replay
from backsheet.forms import cell_form, form_text, names_in, substituted
from backsheet.moves import is_move
from backsheet.roles import exchange
from backsheet.sheets import Sheet

FIRST = Sheet([("a", "input", 3), ("b", "input", 4), ("total", "formula", "a + b")])


def state_of(desk):
    return desk.present_sheet().rows(), desk.held_cells(), desk.present_limits()


def states_by(desk, step, stop):
    """The states of a copy that is undone or redone as far as it can be."""
    found = []
    while True:
        try:
            getattr(desk, step)()
        except stop:
            return found
        found.append((state_of(desk), desk.history()))


def told(desk):
    """All that can be told of a desk: its state, its marks, its history, and what can be undone and redone."""
    marked = []
    for word in desk.mark_words():
        other = desk.copy()
        other.back(word)
        marked.append((word, state_of(other)))
    return (
        state_of(desk), marked, desk.history(), len(desk), states_by(desk.copy(), "undo", errors.NothingToUndo),
        states_by(desk.copy(), "redo", errors.NothingToRedo),
    )


class DeskCase(Case):

    def check_refused(self, desk, kind, fields, word, *arguments):
        """An operation raises an exception, and nothing has changed then."""
        before = told(desk)
        self.check_error(kind, fields, getattr(desk, word), *arguments)
        self.assertEqual(told(desk), before)

    def refused_weights(self, desk, word, *arguments):
        before = told(desk)
        with self.assertRaises(errors.Refused) as caught:
            getattr(desk, word)(*arguments)
        self.assertEqual(told(desk), before)
        self.assertEqual(list(vars(caught.exception)), ["weights"])
        return caught.exception.weights

    def check_done(self, desk, returned, word, /, *arguments, step=None, **named):
        """An operation returns a value and is one step; limits and held cells keep what they ask for."""
        history, count = desk.history(), len(desk)
        held = {name: desk.value_of(name) for name in desk.held_cells()}
        found = getattr(desk, word)(*arguments, **named)
        self.assertEqual(found, returned)
        if returned is not None:
            self.assertIsInstance(found, tuple)
        self.assertEqual((desk.history(), len(desk)), ((*history, step or (word, *arguments)), count + 1))
        sheet = desk.present_sheet()
        self.assertIs(keeps(sheet, desk.present_table(), limits=desk.present_limits()), True)
        if word != "back":
            for name in desk.held_cells():
                if name in held:
                    self.assertEqual(desk.value_of(name), held[name])

    def numbers(self, desk):
        """The values of the desk, integers where they are some."""
        return {name: top if bottom == 1 else (top, bottom) for name, (top, bottom) in desk.present_table()}


class NewDeskTest(DeskCase):

    def test_a_new_desk(self):
        for sheet in (FIRST, LARGE, Sheet()):
            for desk in (Desk(sheet), Desk(sheet=sheet)):
                self.assertEqual(desk.present_sheet(), sheet)
                self.assertEqual(desk.present_table(), sheet.own_table())
                self.assertEqual([desk.held_cells(), desk.present_limits(), desk.mark_words(), desk.history()],
                                 [()] * 4)
                self.assertEqual(len(desk), 0)
                self.check_refused(desk, errors.NothingToUndo, {}, "undo")
                self.check_refused(desk, errors.NothingToRedo, {}, "redo")

    def test_values(self):
        desk = Desk(FIRST)
        for name, number in (("a", (3, 1)), ("b", (4, 1)), ("total", (7, 1))):
            self.assertEqual(desk.value_of(name), number)
            self.assertEqual(desk.value_of(name=name), number)
        for name in NO_NAMES:
            self.check_error(errors.UnknownCell, {"name": name}, desk.value_of, name)

    def test_held_cells_limits_and_marks_in_ascending_order(self):
        desk = Desk(FIRST)
        for name in ("total", "a", "b"):
            desk.hold(name)
            desk.limit(name, 0, 9)
            desk.mark("m" + name)
        desk.mark("ma")
        self.assertEqual(desk.held_cells(), ("a", "b", "total"))
        self.assertEqual(desk.present_limits(), tuple([(name, (0, 1), (9, 1)) for name in ("a", "b", "total")]))
        self.assertEqual(desk.mark_words(), ("ma", "mb", "mtotal"))

    def test_equal_desks(self):
        one, other = Desk(FIRST), Desk(Sheet(FIRST.rows()))
        self.assertEqual(one, other)
        other.mark("x")
        other.hold("a")
        self.assertNotEqual(one, other)
        other.free("a")
        # Marks and histories do not matter.
        self.assertTrue(one == other and other == one and not one != other)
        other.limit("b", None, None)
        self.assertNotEqual(one, other)
        one.limit("b", None, None)
        self.assertEqual(one, other)
        one.limit("b", None, 9)
        self.assertNotEqual(one, other)
        one.undo()
        self.assertEqual(one, other)
        one.set_values([("a", 5)])
        self.assertNotEqual(one, other)
        self.assertNotEqual(Desk(FIRST), Desk(Sheet(FIRST.rows()[::-1])))

    def test_a_desk_is_equal_to_nothing_else(self):
        desk = Desk(FIRST)
        for value in (*ODD_VALUES, FIRST, desk.present_table(), desk.history(), (FIRST, (), ())):
            self.assertFalse(desk == value)
            self.assertFalse(value == desk)
            self.assertTrue(desk != value)
        self.assertFalse(Desk(Sheet()) == Sheet())

    def test_the_sheet_that_it_was_made_for_stays(self):
        rows = FIRST.rows()
        desk = Desk(FIRST)
        desk.set_values([("total", 100)])
        desk.rename("a", "z")
        self.assertEqual(FIRST.rows(), rows)


class CopyTest(DeskCase):

    def worked(self):
        desk = Desk(FIRST)
        desk.hold("a")
        desk.mark("early")
        desk.set_values([("total", 10)])
        desk.limit("b", 0, 50)
        desk.mark("late")
        desk.rename("b", "z")
        desk.undo()
        desk.undo()
        return desk

    def test_a_copy_has_all_that_the_desk_has(self):
        desk = self.worked()
        other = desk.copy()
        self.assertIsInstance(other, Desk)
        self.assertEqual(told(other), told(desk))
        self.assertEqual(other, desk)
        self.assertEqual(len(states_by(desk.copy(), "redo", errors.NothingToRedo)), 2)
        self.assertEqual(len(states_by(desk.copy(), "undo", errors.NothingToUndo)), 2)

    def test_deeds_on_one_leave_the_others_as_they_are(self):
        deeds = (
            ("undo",), ("redo",), ("mark", "early"), ("mark", "new"), ("back", "late"), ("hold", "b"), ("free", "a"),
            ("set_values", [("total", 1)]), ("remove", "total"), ("add_input", "n", 1), ("limit", "a", 0, 4),
            ("define", "total", "5*a - b"), ("exchange_roles", "b", "total"), ("rename", "total", "sums"),
        )
        for word, *arguments in deeds:
            desk = self.worked()
            other = desk.copy()
            third = other.copy()
            before = told(desk)
            getattr(other, word)(*arguments)
            self.assertEqual(told(desk), before)
            self.assertEqual(told(third), before)
            self.assertNotEqual(told(other), before)
            desk, other = self.worked(), desk
            second = desk.copy()
            getattr(desk, word)(*arguments)
            self.assertEqual(told(second), before)


class ExampleTest(DeskCase):

    def test_example(self):
        desk = Desk(FIRST)
        self.check_done(desk, None, "hold", "a")
        step = ("set_values", (("total", (10, 1)),))
        self.check_done(desk, ("b",), "set_values", [("total", 10)], step=step)
        self.assertEqual(self.numbers(desk), {"a": 3, "b": 7, "total": 10})
        self.check_done(desk, ("b",), "limit", "b", None, 5, step=("limit", "b", None, (5, 1)))
        self.assertEqual(self.numbers(desk), {"a": 3, "b": 5, "total": 8})
        weights = self.refused_weights(desk, "set_values", [("total", 9)])
        lists = {"wishes": [("total", 9)], "held": ["a"], "limits": [("b", None, 5)]}
        expected = ((("formula", "total"), (-1, 1)), (("held", "a"), (-1, 1)), (("high", "b"), (1, 1)),
                    (("wish", "total"), (1, 1)))
        for found in (weights, expected):
            self.assertIs(is_refusal(desk.present_sheet(), found, **lists), True)
        self.assertEqual(weights, expected)


class RowsTest(DeskCase):
    """add_input, add_formula and remove."""

    def test_new_rows_stand_at_the_end(self):
        desk = Desk(FIRST)
        self.check_done(desk, None, "add_input", "fee", 7, step=("add_input", "fee", (7, 1)))
        self.check_done(desk, None, "add_input", "fine", (1, 2))
        self.check_done(desk, None, "add_formula", "all", " total + fee*2 ")
        self.check_done(desk, None, "add_input", name="x", number=-1, step=("add_input", "x", (-1, 1)))
        self.check_done(desk, None, "add_formula", name="y", text="x", step=("add_formula", "y", "x"))
        self.assertEqual(desk.present_sheet().rows(), (
            *FIRST.rows(), ("fee", "input", (7, 1)), ("fine", "input", (1, 2)), ("all", "formula", " total + fee*2 "),
            ("x", "input", (-1, 1)), ("y", "formula", "x"),
        ))
        self.assertEqual(desk.value_of("all"), (21, 1))

    def test_the_exceptions_of_new_rows(self):
        desk = Desk(FIRST)
        desk.hold("a")
        desk.undo()
        for name in ("", "sum", "average", "A", "abcdefghi", "a b", "a\n", "a1"):
            self.check_refused(desk, errors.InvalidName, {"name": name}, "add_input", name, 1)
            self.check_refused(desk, errors.InvalidName, {"name": name}, "add_formula", name, "none + (")
        for name in ("a", "total"):
            self.check_refused(desk, errors.DuplicateCell, {"name": name}, "add_input", name, 1)
            self.check_refused(desk, errors.DuplicateCell, {"name": name}, "add_formula", name, "none + (")
        for text, word, position in (
            ("a +", "syntax", 3), ("", "syntax", 0), (" ", "syntax", 1), ("a*b", "linear", 1),
            ("none/0 + x*y", "zero", 4),
            ("a\n", "syntax", 1),
        ):
            fields = {"name": "x", "word": word, "position": position}
            self.check_refused(desk, errors.BadFormula, fields, "add_formula", "x", text)
        self.check_refused(desk, errors.UnknownCell, {"name": "nil"}, "add_formula", "x", "none + x + nil")
        self.check_refused(desk, errors.CircularCell, {"name": "x"}, "add_formula", "x", "a + x")
        self.check_done(desk, None, "add_formula", "x", "a + x - x + none*0")

    def test_remove(self):
        desk = Desk(FIRST)
        desk.hold("total")
        desk.hold("a")
        desk.limit("total", 0, 10)
        desk.limit("a", None, 4)
        self.check_done(desk, None, "remove", "total")
        self.assertEqual(state_of(desk), ((("a", "input", (3, 1)), ("b", "input", (4, 1))), ("a",),
                                          (("a", None, (4, 1)),)))
        self.check_done(desk, None, "remove", "a")
        self.check_done(desk, None, "remove", "b")
        self.assertEqual(state_of(desk), ((), (), ()))
        desk.undo()
        desk.undo()
        desk.undo()
        self.assertEqual(desk.held_cells(), ("a", "total"))
        self.assertEqual(desk.present_limits(), (("a", None, (4, 1)), ("total", (0, 1), (10, 1))))

    def test_the_exceptions_of_remove(self):
        desk = Desk(Sheet([*FIRST.rows(), ("more", "formula", "total - a"), ("few", "formula", "b - b")]))
        for name in NO_NAMES:
            self.check_refused(desk, errors.UnknownCell, {"name": name}, "remove", name)
        self.check_refused(desk, errors.CellInUse, {"name": "a", "user": "total"}, "remove", "a")
        self.check_refused(desk, errors.CellInUse, {"name": "total", "user": "more"}, "remove", "total")
        self.check_done(desk, None, "remove", "few")


class SetValuesTest(DeskCase):

    def test_none_one_and_several_wishes(self):
        desk = Desk(TOTAL)
        self.check_done(desk, (), "set_values", [], step=("set_values", ()))
        self.check_done(desk, (), "set_values", (), step=("set_values", ()))
        self.check_done(desk, (), "set_values", [("total", 120)], step=("set_values", (("total", (120, 1)),)))
        self.check_done(desk, ("net",), "set_values", wishes=(("total", 130),),
                        step=("set_values", (("total", (130, 1)),)))
        step = ("set_values", (("total", (60, 1)), ("net", (99, 2))))
        self.check_done(desk, ("net", "tax"), "set_values", [("total", 60), ("net", (99, 2))], step=step)
        self.assertEqual(self.numbers(desk), {"net": (99, 2), "tax": (21, 2), "total": 60})
        self.check_done(desk, ("tax",), "set_values", [("tax", 0)], step=("set_values", (("tax", (0, 1)),)))

    def test_held_cells_and_limits(self):
        desk = Desk(TOTAL)
        desk.hold("net")
        self.check_done(desk, ("tax",), "set_values", [("total", 130)], step=("set_values", (("total", (130, 1)),)))
        desk.free("net")
        desk.limit("net", 0, 105)
        desk.limit("tax", 0, 40)
        self.check_done(desk, ("net", "tax"), "set_values", [("total", 145)],
                        step=("set_values", (("total", (145, 1)),)))
        self.assertEqual(self.numbers(desk), {"net": 105, "tax": 40, "total": 145})
        weights = self.refused_weights(desk, "set_values", [("total", 146)])
        lists = {"wishes": [("total", 146)], "limits": desk.present_limits()}
        self.assertIs(is_refusal(desk.present_sheet(), weights, **lists), True)
        desk.hold("tax")
        weights = self.refused_weights(desk, "set_values", [("tax", 39)])
        self.assertIs(is_refusal(desk.present_sheet(), weights, wishes=[("tax", 39)], held=["tax"],
                                 limits=desk.present_limits()), True)

    def test_the_exceptions_of_set_values(self):
        desk = Desk(TOTAL)
        for value in (*ODD_VALUES, ("net",), ("net", None), ["net", 1]):
            if value != ("a", 3):
                self.check_refused(desk, errors.InvalidWish, {"index": 1}, "set_values", [("net", 1), value, ("z", 1)])
        for name in NO_NAMES:
            self.check_refused(desk, errors.UnknownCell, {"name": name}, "set_values", [(name, 1), None])
        self.check_refused(desk, errors.DuplicateCell, {"name": "net"}, "set_values", [("net", 1), ("net", 1), None])

    def test_a_passed_list_that_is_changed_afterwards(self):
        desk = Desk(TOTAL)
        wishes = [("total", 130), ("tax", 4)]
        desk.set_values(wishes)
        self.assertEqual(wishes, [("total", 130), ("tax", 4)])
        wishes.clear()
        self.assertEqual(desk.history(), (("set_values", (("total", (130, 1)), ("tax", (4, 1)))),))
        self.assertEqual(self.numbers(desk), {"net": 126, "tax": 4, "total": 130})


class DefineTest(DeskCase):

    def test_a_computed_cell(self):
        desk = Desk(FIRST)
        self.check_done(desk, (), "define", "total", "a - b")
        self.assertEqual(desk.present_sheet().rows()[2], ("total", "formula", "a - b"))
        self.assertEqual(self.numbers(desk), {"a": 3, "b": 4, "total": -1})
        self.check_done(desk, (), "define", name="total", text=" 2 ", step=("define", "total", " 2 "))
        self.assertEqual(desk.value_of("total"), (2, 1))

    def test_an_input(self):
        desk = Desk(FIRST)
        self.check_done(desk, (), "define", "a", "b*2")
        self.assertEqual(desk.present_sheet().rows(), (("a", "formula", "b*2"), ("b", "input", (4, 1)),
                                                       ("total", "formula", "a + b")))
        self.assertEqual(desk.value_of("total"), (12, 1))
        desk = Desk(FIRST)
        desk.hold("total")
        self.check_done(desk, ("b",), "define", "a", "b*6")
        self.assertEqual(self.numbers(desk), {"a": 6, "b": 1, "total": 7})
        desk = Desk(FIRST)
        desk.hold("a")
        self.check_done(desk, ("b",), "define", "a", "b*6")
        self.assertEqual(self.numbers(desk), {"a": 3, "b": (1, 2), "total": (7, 2)})

    def test_held_cells_keep_their_values(self):
        desk = Desk(FIRST)
        desk.hold("total")
        self.check_done(desk, ("a",), "define", "total", "2*a + b")
        self.assertEqual(self.numbers(desk), {"a": (3, 2), "b": 4, "total": 7})
        desk.hold("a")
        self.check_done(desk, ("b",), "define", "total", "a + b")
        self.assertEqual(self.numbers(desk), {"a": (3, 2), "b": (11, 2), "total": 7})
        self.assertEqual(desk.held_cells(), ("a", "total"))
        # An input that is held stays, though nothing counts as held for the new sheet.
        self.assertEqual(desk.value_of("a"), (3, 2))

    def test_held_cells_that_cannot_keep_their_values(self):
        desk = Desk(FIRST)
        desk.hold("total")
        desk.hold("a")
        desk.limit("b", 0, 5)
        weights = self.refused_weights(desk, "define", "total", "a + b/10")
        changed = FIRST.with_row(("total", "formula", "a + b/10"))
        lists = {"wishes": [("a", 3), ("total", 7)], "limits": [("b", 0, 5)]}
        self.assertIs(is_refusal(changed, weights, **lists), True)
        self.assertFalse(any(word == "held" for (word, _), _ in weights))
        weights = self.refused_weights(desk, "define", "total", "8")
        self.assertIs(is_refusal(FIRST.with_row(("total", "formula", "8")), weights, **lists), True)
        self.check_done(desk, (), "define", "total", "7")

    def test_limits_are_kept(self):
        desk = Desk(FIRST)
        desk.limit("total", 0, 10)
        desk.limit("a", 1, 5)
        self.check_done(desk, ("a",), "define", "total", "2*a + b + 1")
        self.assertEqual(self.numbers(desk), {"a": (5, 2), "b": 4, "total": 10})
        self.check_done(desk, ("b",), "define", "total", "2*a + b + 6")
        self.assertEqual(self.numbers(desk), {"a": (5, 2), "b": -1, "total": 10})
        self.check_done(desk, (), "define", "b", "-1")
        # The limit of a cell that was an input stays, too.
        desk = Desk(FIRST)
        desk.limit("a", 0, 3)
        self.check_done(desk, ("b",), "define", "a", "b")
        self.assertEqual(self.numbers(desk), {"a": 3, "b": 3, "total": 6})
        self.assertEqual(desk.present_limits(), (("a", (0, 1), (3, 1)),))

    def test_the_exceptions_of_define(self):
        desk = Desk(FIRST)
        desk.hold("total")
        for name in NO_NAMES:
            self.check_refused(desk, errors.UnknownCell, {"name": name}, "define", name, "a +")
        for text, word, position in (("a +", "syntax", 3), ("a*b", "linear", 1), ("none/(1 - 1)", "zero", 4)):
            fields = {"name": "a", "word": word, "position": position}
            self.check_refused(desk, errors.BadFormula, fields, "define", "a", text)
        self.check_refused(desk, errors.UnknownCell, {"name": "nil"}, "define", "a", "nil + total")
        self.check_refused(desk, errors.CircularCell, {"name": "a"}, "define", "a", "total")
        self.check_refused(desk, errors.CircularCell, {"name": "total"}, "define", "total", "total")
        self.refused_weights(desk, "define", "total", "6")


class HoldTest(DeskCase):

    def test_hold_and_free(self):
        desk = Desk(FIRST)
        self.check_done(desk, None, "hold", "total")
        self.check_done(desk, None, "hold", name="a", step=("hold", "a"))
        self.assertEqual(desk.held_cells(), ("a", "total"))
        self.check_refused(desk, errors.AlreadyHeld, {"name": "a"}, "hold", "a")
        self.check_done(desk, None, "free", "a")
        self.assertEqual(desk.held_cells(), ("total",))
        self.check_refused(desk, errors.NotHeld, {"name": "a"}, "free", "a")
        self.check_done(desk, None, "free", name="total", step=("free", "total"))
        self.check_done(desk, None, "hold", "total")
        for name in NO_NAMES:
            for word in ("hold", "free"):
                self.check_refused(desk, errors.UnknownCell, {"name": name}, word, name)


class LimitTest(DeskCase):

    def test_limits_that_the_table_keeps(self):
        desk = Desk(FIRST)
        self.check_done(desk, (), "limit", "total", 0, (15, 2), step=("limit", "total", (0, 1), (15, 2)))
        self.check_done(desk, (), "limit", "a", 3, 3, step=("limit", "a", (3, 1), (3, 1)))
        self.check_done(desk, (), "limit", name="b", low=None, high=None, step=("limit", "b", None, None))
        self.assertEqual(desk.present_limits(),
                         (("a", (3, 1), (3, 1)), ("b", None, None), ("total", (0, 1), (15, 2))))
        # A limit stands in the place of the one before.
        self.check_done(desk, (), "limit", "total", None, None)
        self.check_done(desk, (), "limit", "a", None, 100, step=("limit", "a", None, (100, 1)))
        self.assertEqual(desk.present_limits(), (("a", None, (100, 1)), ("b", None, None), ("total", None, None)))

    def test_limits_that_change_inputs(self):
        desk = Desk(FIRST)
        self.check_done(desk, ("a",), "limit", "total", 10, 20, step=("limit", "total", (10, 1), (20, 1)))
        self.assertEqual(self.numbers(desk), {"a": 6, "b": 4, "total": 10})
        self.check_done(desk, ("a", "b"), "limit", "a", None, -7, step=("limit", "a", None, (-7, 1)))
        self.assertEqual(self.numbers(desk), {"a": -7, "b": 17, "total": 10})
        desk.hold("b")
        self.check_done(desk, ("a",), "limit", "total", 0, 9, step=("limit", "total", (0, 1), (9, 1)))
        self.assertEqual(self.numbers(desk), {"a": -8, "b": 17, "total": 9})

    def test_refused_limits(self):
        desk = Desk(FIRST)
        desk.hold("b")
        desk.limit("a", 0, 10)
        weights = self.refused_weights(desk, "limit", "total", 15, None)
        lists = {"held": ["b"], "limits": [("a", 0, 10), ("total", 15, None)]}
        self.assertIs(is_refusal(FIRST, weights, **lists), True)
        desk.limit("total", 0, 14)
        # The limit that the cell has already does not count.
        self.check_done(desk, ("a",), "limit", "total", (13, 1), 15, step=("limit", "total", (13, 1), (15, 1)))
        weights = self.refused_weights(desk, "limit", "b", 5, 6)
        lists = {"held": ["b"], "limits": [("a", 0, 10), ("b", 5, 6), ("total", 13, 15)]}
        self.assertIs(is_refusal(desk.present_sheet(), weights, **lists), True)

    def test_the_exceptions_of_limit(self):
        desk = Desk(FIRST)
        desk.hold("a")
        for name in NO_NAMES:
            self.check_refused(desk, errors.UnknownCell, {"name": name}, "limit", name, "1", 0)
            self.check_refused(desk, errors.UnknownCell, {"name": name}, "limit", name, 2, 1)
        for value in ODD_VALUES:
            if value is not None and (value not in (0, 7) or isinstance(value, bool)):
                self.check_refused(desk, errors.InvalidLimit, {"index": 0}, "limit", "a", value, 0)
                self.check_refused(desk, errors.InvalidLimit, {"index": 0}, "limit", "a", 5, value)
                self.check_refused(desk, errors.InvalidLimit, {"index": 0}, "limit", "a", None, value)
        self.check_refused(desk, errors.EmptyLimit, {"name": "a"}, "limit", "a", 2, 1)
        self.check_refused(desk, errors.EmptyLimit, {"name": "b"}, "limit", "b", (LONG + 1, LONG), 1)
        self.refused_weights(desk, "limit", "a", 1, 2)

    def test_unlimit(self):
        desk = Desk(FIRST)
        desk.limit("b", 0, 9)
        desk.limit("a", None, None)
        self.check_done(desk, None, "unlimit", "a")
        self.assertEqual(desk.present_limits(), (("b", (0, 1), (9, 1)),))
        self.check_refused(desk, errors.NoLimit, {"name": "a"}, "unlimit", "a")
        self.check_done(desk, None, "unlimit", name="b", step=("unlimit", "b"))
        self.check_refused(desk, errors.NoLimit, {"name": "b"}, "unlimit", "b")
        for name in NO_NAMES:
            self.check_refused(desk, errors.UnknownCell, {"name": name}, "unlimit", name)


class RolesTest(DeskCase):

    def test_exchange_roles(self):
        desk = Desk(FIRST)
        desk.hold("b")
        desk.limit("total", 0, 7)
        self.check_done(desk, None, "exchange_roles", "a", "total")
        self.assertEqual(desk.present_sheet(), exchange(FIRST, "a", "total")[1])
        self.assertEqual((desk.held_cells(), desk.present_limits()), (("b",), (("total", (0, 1), (7, 1)),)))
        self.check_done(desk, ("total",), "set_values", [("a", 0)], step=("set_values", (("a", (0, 1)),)))
        self.check_done(desk, None, "exchange_roles", name="total", computed="a", step=("exchange_roles", "total", "a"))
        self.assertEqual(desk.present_sheet().rows(), (("a", "input", (0, 1)), ("b", "input", (4, 1)),
                                                       ("total", "formula", "a + b")))

    def test_roles_that_are_kept(self):
        sheet = Sheet([*FIRST.rows(), ("same", "formula", "total - b")])
        desk = Desk(sheet)
        with self.assertRaises(errors.RolesKept) as caught:
            desk.exchange_roles("b", "same")
        self.assertEqual(caught.exception.move, exchange(sheet, "b", "same")[1])
        self.assertIs(is_move(sheet, caught.exception.move, held=["a", "same"]), True)
        self.check_refused(desk, errors.RolesKept, {"move": caught.exception.move}, "exchange_roles", "b", "same")

    def test_the_exceptions_of_exchange_roles(self):
        desk = Desk(FIRST)
        for name in NO_NAMES:
            self.check_refused(desk, errors.UnknownCell, {"name": name}, "exchange_roles", name, "nil")
            self.check_refused(desk, errors.UnknownCell, {"name": name}, "exchange_roles", "total", name)
        self.check_refused(desk, errors.NotInput, {"name": "total"}, "exchange_roles", "total", "a")
        self.check_refused(desk, errors.NotComputed, {"name": "b"}, "exchange_roles", "a", "b")


class RenameTest(DeskCase):

    def test_rows_formulas_holds_and_limits(self):
        sheet = Sheet([("b", "formula", "(a+c) * 2"), ("a", "input", (1, 2)), ("d", "formula", "c*3 + 0"),
                       ("c", "input", 4), ("e", "formula", "b  -  a")])
        desk = Desk(sheet)
        for name in ("a", "d"):
            desk.hold(name)
            desk.limit(name, None, 12)
        self.check_done(desk, None, "rename", "a", "z")
        self.assertEqual(desk.present_sheet().rows(), (
            ("b", "formula", "2*c + 2*z"), ("z", "input", (1, 2)), ("d", "formula", "c*3 + 0"), ("c", "input", (4, 1)),
            ("e", "formula", "b - z"),
        ))
        self.assertEqual(desk.held_cells(), ("d", "z"))
        self.assertEqual(desk.present_limits(), (("d", None, (12, 1)), ("z", None, (12, 1))))
        self.check_done(desk, None, "rename", name="d", other="zz", step=("rename", "d", "zz"))
        self.assertEqual((desk.held_cells(), desk.present_sheet().rows()[2]),
                         (("z", "zz"), ("zz", "formula", "c*3 + 0")))
        self.check_done(desk, None, "rename", "b", "a")
        self.assertEqual(desk.present_sheet().rows()[4], ("e", "formula", "a - z"))
        self.assertEqual(desk.value_of("e"), (17, 2))

    def test_formulas_in_which_the_cell_has_cancelled_stay(self):
        sheet = Sheet([("a", "input", 1), ("b", "formula", "a*2 - a - a + 3"), ("c", "formula", "a + b - b"),
                       ("d", "formula", " a ")])
        desk = Desk(sheet)
        self.check_done(desk, None, "rename", "a", "x")
        self.assertEqual(desk.present_sheet().rows(), (
            ("x", "input", (1, 1)), ("b", "formula", "a*2 - a - a + 3"), ("c", "formula", "x"), ("d", "formula", "x")))
        self.check_done(desk, None, "rename", "b", "a")
        self.assertEqual(desk.present_sheet().rows()[1:3], (("a", "formula", "a*2 - a - a + 3"), ("c", "formula", "x")))
        # The formula names the new name already, but its form does not.
        desk = Desk(sheet)
        self.check_done(desk, None, "rename", "c", "b" * 8)
        self.check_done(desk, None, "rename", "b", "c")
        self.assertEqual(desk.present_sheet().rows()[2], ("bbbbbbbb", "formula", "a + b - b"))

    def test_the_exceptions_of_rename(self):
        desk = Desk(FIRST)
        for name in NO_NAMES:
            for other in (*NO_NAMES, "a", "x"):
                self.check_refused(desk, errors.UnknownCell, {"name": name}, "rename", name, other)
        for other in ("", "sum", "average", "A", "abcdefghi", "a b", "a\n", "-", "total1"):
            self.check_refused(desk, errors.InvalidName, {"name": other}, "rename", "a", other)
            # Also where the formula that names the cell stands ahead of it.
            self.check_refused(Desk(Sheet(FIRST.rows()[::-1])), errors.InvalidName, {"name": other}, "rename", "a",
                               other)
        for other in ("a", "b", "total"):
            self.check_refused(desk, errors.DuplicateCell, {"name": other}, "rename", "a", other)


class MarksTest(DeskCase):

    def test_back_to_a_mark(self):
        desk = Desk(FIRST)
        desk.hold("a")
        desk.limit("b", 0, 9)
        self.assertIsNone(desk.mark("one"))
        self.assertIsNone(desk.mark(word="none"))
        before = state_of(desk)
        desk.rename("a", "z")
        desk.free("z")
        desk.set_values([("z", 9), ("b", 8)])
        desk.add_input("x", 1)
        desk.mark("two")
        late = state_of(desk)
        self.check_done(desk, None, "back", "one")
        self.assertEqual(state_of(desk), before)
        self.check_done(desk, None, "back", word="two", step=("back", "two"))
        self.assertEqual(state_of(desk), late)
        self.check_done(desk, None, "back", "two")
        self.assertEqual(desk.mark_words(), ("none", "one", "two"))
        desk.undo()
        desk.undo()
        self.assertEqual(state_of(desk), before)
        desk.undo()
        self.assertEqual(state_of(desk), late)
        desk.redo()
        self.assertEqual(state_of(desk), before)

    def test_back_may_change_held_cells(self):
        desk = Desk(FIRST)
        desk.mark("m")
        desk.set_values([("a", 50)])
        desk.hold("a")
        self.check_done(desk, None, "back", "m")
        self.assertEqual((desk.value_of("a"), desk.held_cells()), ((3, 1), ()))

    def test_a_mark_set_again(self):
        desk = Desk(FIRST)
        desk.mark("m")
        desk.set_values([("a", 50)])
        desk.mark("m")
        desk.set_values([("a", 60)])
        desk.back("m")
        self.assertEqual((desk.value_of("a"), desk.mark_words()), ((50, 1), ("m",)))

    def test_marks_are_not_steps_and_forget_nothing(self):
        desk = Desk(FIRST)
        desk.hold("a")
        desk.hold("b")
        desk.undo()
        desk.mark("m")
        self.assertEqual((len(desk), desk.history()), (1, (("hold", "a"),)))
        desk.redo()
        self.assertEqual(desk.held_cells(), ("a", "b"))
        # Undoing takes no mark away.
        desk.undo()
        desk.undo()
        self.assertEqual(desk.mark_words(), ("m",))
        desk.back("m")
        self.assertEqual(desk.held_cells(), ("a",))

    def test_words_that_are_no_names(self):
        desk = Desk(FIRST)
        for word in (*[value for value in ODD_VALUES if value not in ("a", "wish")], "", "sum", "average", "A",
                     "abcdefghi",
                     "a b", "a\n", "m1", ["m"], ("m",)):
            self.check_refused(desk, errors.InvalidName, {"name": word}, "mark", word)

    def test_words_without_a_mark(self):
        desk = Desk(FIRST)
        desk.mark("m")
        for word in ("", "n", "sum", "M", "m ", "mm", "a long one\n"):
            self.check_refused(desk, errors.NoMark, {"word": word}, "back", word)


class HistoryTest(DeskCase):

    def test_undo_and_redo_up_to_both_ends(self):
        desk = Desk(FIRST)
        steps = (
            ("hold", "a"), ("set_values", [("total", 10)]), ("limit", "b", None, 5), ("set_values", []), ("mark", "m"),
            ("add_formula", "x", "a"), ("exchange_roles", "a", "x"), ("rename", "x", "y"), ("back", "m"),
            ("define", "a", "b/2"), ("free", "a"), ("remove", "total"), ("unlimit", "b"), ("add_input", "k", 2),
        )
        states = [state_of(desk)]
        for word, *arguments in steps:
            if (word, arguments) == ("define", ["a", "b/2"]):
                desk.free("a")
                states.append(state_of(desk))
                desk.hold("b")
                states.append(state_of(desk))
            if word == "free":
                arguments = ["b"]
            getattr(desk, word)(*arguments)
            if word != "mark":
                states.append(state_of(desk))
        history = desk.history()
        self.assertEqual(len(history), len(states) - 1)
        for _ in range(2):
            for at in range(len(history) - 1, -1, -1):
                self.assertIsNone(desk.undo())
                self.assertEqual((state_of(desk), desk.history(), len(desk)), (states[at], history[:at], at))
            self.check_refused(desk, errors.NothingToUndo, {}, "undo")
            for at in range(1, len(history) + 1):
                self.assertIsNone(desk.redo())
                self.assertEqual((state_of(desk), desk.history(), len(desk)), (states[at], history[:at], at))
            self.check_refused(desk, errors.NothingToRedo, {}, "redo")

    def test_a_new_step_forgets_what_was_undone(self):
        for word, *arguments in (
            ("set_values", []), ("hold", "b"), ("back", "m"), ("add_input", "x", 0), ("limit", "a", None, None),
            ("define", "total", "a + b"),
        ):
            desk = Desk(FIRST)
            desk.mark("m")
            desk.hold("a")
            desk.undo()
            getattr(desk, word)(*arguments)
            self.check_refused(desk, errors.NothingToRedo, {}, "redo")
            self.assertEqual(len(desk), 1)

    def test_a_refused_step_and_a_mark_do_not(self):
        desk = Desk(FIRST)
        desk.hold("a")
        desk.undo()
        for word, *arguments in (("set_values", [None]), ("hold", "none"), ("limit", "a", 2, 1), ("back", "m"),
                                 ("define", "a", "total"), ("rename", "a", "b"), ("mark", 5)):
            with self.assertRaises(errors.SheetError):
                getattr(desk, word)(*arguments)
        desk.mark("m")
        desk.copy().set_values([])
        desk.redo()
        self.assertEqual((desk.held_cells(), desk.history()), (("a",), (("hold", "a"),)))

    def test_history_letter_by_letter(self):
        desk = Desk(FIRST)
        desk.add_input("x", 5)
        desk.add_input("y", (-1, 2))
        desk.add_formula("z", " x + y")
        desk.mark("m")
        desk.set_values([("z", 9), ("a", (1, 3))])
        desk.set_values(())
        desk.define("z", "x*2")
        desk.hold("x")
        desk.limit("a", None, 7)
        desk.limit("b", -2, None)
        desk.limit("b", (1, 2), 9)
        desk.unlimit("a")
        desk.exchange_roles("a", "total")
        desk.rename("a", "q")
        desk.free("x")
        desk.remove("y")
        desk.back("m")
        self.assertEqual(desk.history(), (
            ("add_input", "x", (5, 1)), ("add_input", "y", (-1, 2)), ("add_formula", "z", " x + y"),
            ("set_values", (("z", (9, 1)), ("a", (1, 3)))), ("set_values", ()), ("define", "z", "x*2"), ("hold", "x"),
            ("limit", "a", None, (7, 1)), ("limit", "b", (-2, 1), None), ("limit", "b", (1, 2), (9, 1)),
            ("unlimit", "a"),
            ("exchange_roles", "a", "total"), ("rename", "a", "q"), ("free", "x"), ("remove", "y"), ("back", "m"),
        ))
        self.assertEqual(len(desk), 16)
        self.assertEqual(desk.history(), desk.history())


class ReplayTest(DeskCase):

    STEPS = (
        ("hold", "a"), ("set_values", (("total", (10, 1)),)), ("limit", "b", None, (7, 1)), ("add_input", "x", (1, 2)),
        ("add_formula", "y", "x + total "), ("define", "total", "b + a"), ("exchange_roles", "x", "y"),
        ("rename", "b", "bb"), ("free", "a"), ("unlimit", "bb"), ("remove", "x"),
    )

    def test_histories_as_tuples_and_as_lists(self):
        desk = Desk(FIRST)
        for word, *arguments in self.STEPS:
            getattr(desk, word)(*arguments)
        self.assertEqual(desk.history(), self.STEPS)
        lists = [list(step) for step in self.STEPS]
        lists[1][1] = [("total", 10)]
        before = [list(step) for step in lists]
        for operations in (self.STEPS, list(self.STEPS), lists, tuple(lists)):
            found = replay(FIRST, operations)
            self.assertEqual((found, found.history()), (desk, self.STEPS))
            self.assertEqual(told(found), told(desk))
            self.assertEqual(replay(sheet=FIRST, operations=operations), desk)
        self.assertEqual(lists, before)
        self.assertEqual(replay(FIRST, []), Desk(FIRST))
        self.assertEqual(len(replay(Sheet(), ())), 0)

    def test_what_was_undone_is_not_in_the_history(self):
        desk = Desk(FIRST)
        desk.hold("a")
        desk.hold("b")
        desk.undo()
        self.assertEqual(replay(FIRST, desk.history()).held_cells(), ("a",))

    def test_values_that_are_no_operations(self):
        for value in (
            *ODD_VALUES, (), [], ("undo",), ("redo",), ("mark", "m"), ("back", "m"), ("copy",), ("Hold", "a"),
            ("hold",), ("hold", "a", "b"), ("hold", None), ("hold", ["a"]), ("hold", 3), ("hold", ("a",)),
            ("free", True),
            ("remove",), ("remove", 0), ("unlimit", ()), ("limit", "a", 1), ("limit", "a", 1, 2, 3), ("limit", 1, 1, 2),
            ("add_input", "x"), ("add_input", 5, 5), ("add_input", "x", 5, 5), ("add_formula", None, "a"),
            ("add_formula", "x"), ("define", 1, "a"), ("define", "a"), ("set_values",), ("set_values", None),
            ("set_values", "total"), ("set_values", 5), ("set_values", [], []), ("set_values", True),
            ("exchange_roles", "a"), ("exchange_roles", "a", None), ("exchange_roles", 1, "total"), ("rename", "a"),
            ("rename", "a", 5), ("rename", None, "x"), ("rename", "a", ["x"]), (None, "a"), (["hold"], "a"),
            (("hold",), "a"), ({}, "a"), (1, "a"), (True, "a"), "hold", "ab", {"hold": "a"}, ("solve", []), ("", "a"),
            ("present_sheet",), ("history",), ("value_of", "a"),
        ):
            with self.subTest(value=value):
                for operations, index in (([value], 0), ([("hold", "a"), value, ("back", "m")], 1),
                                          ((("hold", "none"), ("hold", "none"), value, None), 2)):
                    self.check_error(errors.InvalidOperation, {"index": index}, replay, FIRST, operations)

    def test_other_arguments_may_be_any_value(self):
        """What is wrong with them is told by the exception of the operation."""
        for value in ODD_VALUES:
            if value not in (0, 7, (2, 4)) or isinstance(value, bool):
                for word in ("add_input", "add_formula"):
                    if not (word == "add_formula" and isinstance(value, str)):
                        self.check_error(errors.InvalidRow, {"index": 3}, replay, FIRST, [(word, "x", value)])
                if not isinstance(value, str):
                    self.check_error(errors.InvalidRow, {"index": 1}, replay, FIRST, [("define", "b", value)])
                    self.check_error(errors.UnknownCell, {"name": "x"}, replay, FIRST, [("define", "x", value)])
                if value is not None:
                    self.check_error(errors.InvalidLimit, {"index": 0}, replay, FIRST, [("limit", "b", value, None)])
                    self.check_error(errors.InvalidLimit, {"index": 0}, replay, FIRST, [["limit", "b", 3, value]])
                    self.check_error(errors.UnknownCell, {"name": "x"}, replay, FIRST, [("limit", "x", value, value)])
            if value != ("a", 3):
                self.check_error(errors.InvalidWish, {"index": 0}, replay, FIRST, [("set_values", [value])])

    def test_the_exception_of_the_first_that_fails(self):
        good = ("set_values", [("a", 5)])
        for step, kind, fields in (
            (("hold", "x"), errors.UnknownCell, {"name": "x"}), (("free", "a"), errors.NotHeld, {"name": "a"}),
            (("hold", "b"), errors.AlreadyHeld, {"name": "b"}), (("unlimit", "a"), errors.NoLimit, {"name": "a"}),
            (("remove", "a"), errors.CellInUse, {"name": "a", "user": "total"}),
            (("rename", "a", "sum"), errors.InvalidName, {"name": "sum"}),
            (("add_input", "a", 1), errors.DuplicateCell, {"name": "a"}),
            (("exchange_roles", "total", "a"), errors.NotInput, {"name": "total"}),
            (("limit", "a", 2, 1), errors.EmptyLimit, {"name": "a"}),
            (("set_values", ("a",)), errors.InvalidWish, {"index": 0}),
            (("define", "a", "total"), errors.CircularCell, {"name": "a"}),
        ):
            self.check_error(kind, fields, replay, FIRST, [good, ("hold", "b"), step, ("hold", "none"), ("free", "a")])
        with self.assertRaises(errors.Refused) as caught:
            replay(FIRST, [("hold", "a"), ("set_values", [("a", 5)]), ("hold", "none")])
        self.assertIs(is_refusal(FIRST, caught.exception.weights, wishes=[("a", 5)], held=["a"]), True)


class Model:
    """A second desk, which finds its sheets by trying all sets of inputs."""

    def __init__(self, sheet):
        self.state = (sheet, [], {})

    def solved(self, sheet, wishes, held, limits):
        """The sheet that [31] asks for and the inputs that change, or Refused."""
        numbers = cases.solution(sheet, wishes, held, [(name, *limits[name]) for name in limits])
        if numbers is None:
            raise errors.Refused(None)
        changed = sheet
        for name in numbers:
            changed = changed.with_input(name, cases.pair(numbers[name]))
        return changed, tuple([name for name in sorted(numbers)])

    def expected(self, word, *arguments):
        """What an operation returns; the state is then the one that it leads to."""
        sheet, held, limits = self.state
        if word == "set_values":
            changed, names = self.solved(sheet, arguments[0], held, limits)
            self.state = (changed, held, limits)
            return names
        if word == "limit":
            name, low, high = arguments
            limits = {**limits, name: (low, high)}
            changed, names = self.solved(sheet, [], held, limits)
            self.state = (changed, held, limits)
            return names
        if word == "define":
            name, text = arguments
            rows = [(name, "formula", text) if row[0] == name else row for row in sheet.rows()]
            wishes = [(each, sheet.value_of(each)) for each in held]
            changed, names = self.solved(Sheet(rows), wishes, [], limits)
            self.state = (changed, held, limits)
            return names
        name = arguments[0]
        if word == "hold":
            self.state = (sheet, [*held, name], limits)
        elif word == "free":
            self.state = (sheet, [each for each in held if each != name], limits)
        elif word == "unlimit":
            self.state = (sheet, held, {each: limits[each] for each in limits if each != name})
        elif word == "remove":
            rest = {each: limits[each] for each in limits if each != name}
            self.state = (Sheet([row for row in sheet.rows() if row[0] != name]),
                          [each for each in held if each != name], rest)
        elif word == "add_input":
            self.state = (Sheet([*sheet.rows(), (name, "input", arguments[1])]), held, limits)
        elif word == "add_formula":
            self.state = (Sheet([*sheet.rows(), (name, "formula", arguments[1])]), held, limits)
        elif word == "exchange_roles":
            self.state = (exchange(sheet, *arguments)[1], held, limits)
        else:
            self.rename(*arguments)
        return None

    def rename(self, name, other):
        sheet, held, limits = self.state
        names = {each: other if each == name else each for each in sheet.cell_names()}
        rows = []
        for each, kind, content in sheet.rows():
            form = sheet.form_of(each)
            if kind == "formula" and name in names_in(form):
                content = form_text(substituted(form, name, cell_form(other)))
            rows.append((names[each], kind, content))
        self.state = (Sheet(rows), [names[each] for each in held], {names[each]: limits[each] for each in limits})

    def told(self):
        sheet, held, limits = self.state
        listed = [(name, *[None if end is None else cases.pair(cases.fraction(end)) for end in limits[name]])
                  for name in sorted(limits)]
        return sheet.rows(), tuple(sorted(held)), tuple(listed)


class RandomTest(DeskCase):

    def random_step(self, source, desk):
        """An operation that is often possible, about cells that are there."""
        sheet = desk.present_sheet()
        names = sheet.cell_names()
        name, other = source.choice(names), source.choice(names)
        new = source.choice([each for each in "abcdefghijklmnop" if each not in names])
        formula = source.choice(["{} + {}", "2*{} - {}", "{}/2 + 1 - {}", "3 - {} + 0*{}"]).format(
            source.choice(names), source.choice(names))
        low = source.choice([None, cases.near(source, sheet, name)])
        high = source.choice([None, cases.near(source, sheet, name)])
        limited = [each for each, _, _ in desk.present_limits()] or [name]
        if low is not None and high is not None and cases.fraction(low) > cases.fraction(high):
            low, high = high, low
        wishes = [(each, cases.near(source, sheet, each)) for each in source.sample(names, source.randrange(1, 3))]
        if len(names) < 7 and source.random() < 0.2:
            return source.choice([("add_input", new, source.randrange(5)), ("add_formula", new, formula)])
        return source.choice([
            ("set_values", wishes), ("set_values", wishes), ("set_values", wishes[:1]), ("define", name, formula),
            ("define", name, formula), ("hold", name), ("free", source.choice(desk.held_cells() or [name])),
            ("limit", name, low, high), ("limit", name, low, high), ("unlimit", source.choice(limited)),
            ("remove", name), ("exchange_roles", name, other), ("rename", name, new),
        ])

    def test_random_operations(self):
        source = random.Random(47)
        counts = {}
        for _ in range(60):
            first = cases.random_sheet(source, 3, 2)
            desk, model = Desk(first), Model(first)
            for _ in range(12):
                word, *arguments = self.random_step(source, desk)
                before = told(desk)
                held = {name: desk.value_of(name) for name in desk.held_cells()}
                try:
                    found = getattr(desk, word)(*arguments)
                except errors.Refused as refused:
                    self.assertEqual(told(desk), before)
                    with self.assertRaises(errors.Refused):
                        model.expected(word, *arguments)
                    self.assertTrue(refused.weights)
                    counts["Refused"] = counts.get("Refused", 0) + 1
                except errors.SheetError:
                    self.assertEqual(told(desk), before)
                else:
                    self.assertEqual(found, model.expected(word, *arguments))
                    counts[word] = counts.get(word, 0) + 1
                    if word == "rename":
                        held = {}
                    for name in desk.held_cells():
                        self.assertEqual(desk.value_of(name), held.get(name, desk.value_of(name)))
                self.assertEqual(state_of(desk), model.told())
                self.assertIs(keeps(desk.present_sheet(), desk.present_table(), limits=desk.present_limits()), True)
            self.assertEqual(replay(first, desk.history()), desk)
            self.assertEqual(told(replay(first, desk.history())), told(desk))
        self.assertEqual(len(counts), 12)
        self.assertGreater(min(counts.values()), 3)

    def test_a_large_sheet(self):
        lists = cases.large_lists(199)
        desk = Desk(LARGE)
        for limit in lists["limits"]:
            desk.limit(*limit)
        desk.hold("e")
        word, found = solve(LARGE, lists["wishes"], held=["e"], limits=desk.present_limits())
        if word == "done":
            desk.set_values(lists["wishes"])
            self.assertEqual(desk.present_sheet(), found)
        else:
            self.refused_weights(desk, "set_values", lists["wishes"])
        self.assertEqual(replay(LARGE, desk.history()), desk)


if __name__ == "__main__":
    cases.unittest.main()
