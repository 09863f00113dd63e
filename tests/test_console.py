"""[52] and [53]: the console."""

import re

import cases
from cases import Case

from backsheet import errors
from backsheet.conditions import is_refusal
from backsheet.console import Console
from backsheet.desk import Desk
from backsheet.formatting import desk_text, read_desk, read_weights
from backsheet.sheets import Sheet
from test_desk import told

NAME = r"(?!(?:sum|average)(?![a-z]))[a-z]{1,8}"
NUMBER = r"-?[0-9]+(?:\.[0-9]+|/0*[1-9][0-9]*)?"
BOUND = rf"(?:-|{NUMBER})"
FORMS = [
    rf"input {NAME} {NUMBER}", rf"(?:cell|define) {NAME} [ -~\n]+", rf"(?:remove|hold|free|unlimit) {NAME}",
    rf"(?:rename|exchange) {NAME} {NAME}", rf"set(?: {NAME} {NUMBER})+", rf"limit {NAME} {BOUND} {BOUND}",
    rf"(?:mark|back|value|least|greatest) {NAME}", r"undo|redo|show|steps", rf"why {NAME} {NUMBER}",
]

# One command for each row of the table, all good for the desk of worked().
COMMANDS = (
    "input x 1", "cell x a + b", "define total a - b", "remove total", "rename a z", "set total 9",
    "set b 3/2 total 4.5",
    "hold b", "free a", "limit b - 5", "limit total -2.5 -", "limit b - -", "unlimit b", "exchange b total", "mark m",
    "back late", "undo", "redo", "value total", "least b", "greatest total", "why total 6", "show", "steps",
)


def worked():
    """A console with something held, limited, marked and undone."""
    console = Console()
    for line in ("input a 3", "input b 4", "cell total a + b", "hold a", "mark late", "limit b 0 50", "set total 10",
                 "add", "rename total sums", "hold sums", "undo", "undo"):
        if line != "add":
            assert not console.enter(line).startswith("error"), line
    return console


def is_command(line):
    return any(re.fullmatch(form, line) for form in FORMS)


def changed_lines(line):
    """A line with a character taken out, put in or another in its place, or words otherwise."""
    for at in range(len(line) + 1):
        for put in (" ", "\n", "-", "a", "A", "1", "/", ".", ",", ""):
            yield line[:at] + put + line[at:]
            yield line[:at] + put + line[at + 1:]
    words = line.split(" ")
    for at in range(len(words) + 1):
        yield " ".join(words[:at] + words[at + 1:])
        for word in ("a", "1", "-", "sum", "set", "abcdefghi", "1/0"):
            yield " ".join([*words[:at], word, *words[at:]])
            yield " ".join([*words[:at], word, *words[at + 1:]])
    yield line.upper()
    yield line.capitalize()


class ConsoleCase(Case):

    def check(self, console, *pairs):
        """Commands and their answers, one after the other."""
        for line, answer in pairs:
            with self.subTest(line=line):
                self.assertEqual(console.enter(line), answer)

    def check_error_text(self, console, line, answer):
        """A command leads to an error, and nothing has changed then."""
        before = told(console.desk_copy())
        with self.subTest(line=line):
            self.assertEqual(console.enter(line), answer)
            self.assertEqual(told(console.desk_copy()), before)

    def check_bad(self, console, line):
        before = told(console.desk_copy())
        with self.subTest(line=line):
            self.check_error(errors.BadCommand, {"line": line}, console.enter, line)
            self.assertEqual(told(console.desk_copy()), before)


class ExampleTest(ConsoleCase):

    def test_example(self):
        self.check(Console(), *[(line, "ok") for line in ("input a 3", "input b 4", "cell total a + b", "hold a")],
                   ("set total 10", "b = 7"), ("limit b - 5", "b = 5"), ("greatest total", "8"),
                   ("why total 6", "possible b = 3"), ("undo", "ok"), ("value total", "10"))


class CommandsTest(ConsoleCase):

    def test_a_new_console(self):
        console = Console()
        self.assertEqual(console.desk_copy(), Desk(Sheet()))
        self.check(console, ("show", "empty"), ("steps", "0"))
        self.assertEqual(console.enter(line="input a 1"), "ok")

    def test_rows(self):
        console = Console()
        self.check(console, ("input net 100", "ok"), ("input tax 2.50", "ok"), ("cell total net + tax", "ok"),
                   ("show", "input net = 100 | input tax = 5/2 | cell total = net + tax"), ("value total", "205/2"),
                   ("value tax", "5/2"), ("rename total all", "ok"), ("remove all", "ok"), ("remove tax", "ok"),
                   ("show", "input net = 100"), ("steps", "6"), ("remove net", "ok"), ("show", "empty"))
        self.assertEqual(console.desk_copy().history()[3], ("rename", "total", "all"))

    def test_changes(self):
        console = Console()
        self.check(
            console, ("input net 100", "ok"), ("input tax 20", "ok"), ("cell total net + tax", "ok"),
            ("set total 130", "net = 110"), ("set total 130", "ok"),
            ("set tax -1/3 total 50", "net = 151/3, tax = -1/3"),
            ("hold total", "ok"), ("define total 2*net + 3*tax", "net = 51/2"),
            ("define total net*2 - 1 + tax*3 + 1", "ok"),
            ("limit tax 1 2", "net = 47/2, tax = 1"), ("limit tax - -", "ok"),
            ("limit net 20.5 23", "net = 23, tax = 4/3"),
            ("free total", "ok"), ("define tax net", "ok"), ("unlimit net", "ok"), ("set total 0.00", "net = 0"),
            ("exchange net total", "ok"),
            ("show", "cell net = 1/5*total | cell tax = net | input total = 0 | limits tax"),
            ("set tax 4", "total = 20"),
        )

    def test_marks_and_steps(self):
        console = Console()
        self.check(console, ("mark empty", "ok"), ("input a 1", "ok"), ("mark one", "ok"), ("set a 5", "a = 5"),
                   ("back one", "ok"), ("value a", "1"), ("steps", "3"), ("undo", "ok"), ("value a", "5"),
                   ("undo", "ok"),
                   ("value a", "1"), ("redo", "ok"), ("value a", "5"), ("steps", "2"), ("back empty", "ok"),
                   ("show", "empty"), ("steps", "3"), ("mark one", "ok"), ("undo", "ok"), ("redo", "ok"),
                   ("show", "empty"),
                   ("hold a", "error UnknownCell"), ("undo", "ok"), ("hold a", "ok"), ("free a", "ok"), ("steps", "4"))

    def test_questions(self):
        console = worked()
        before = told(console.desk_copy())
        self.check(
            console, ("value a", "3"), ("value b", "7"), ("least b", "0"), ("greatest b", "50"), ("least total", "3"),
            ("greatest total", "53"), ("least a", "3"), ("greatest a", "3"), ("why total 10", "possible"),
            ("why total 9.5", "possible b = 13/2"), ("why b 0", "possible b = 0"), ("why a 3", "possible"),
            ("show", "input a = 3 | input b = 7 | cell total = a + b | held a | limits b from 0 to 50"), ("steps", "6"),
        )
        desk = console.desk_copy()
        for line, wish, shown in (
            ("why total 54", ("total", 54), "refused -1 formula total, -1 held a, 1 high b, 1 wish total"),
            ("why a 4", ("a", 4), "refused -1 held a, 1 wish a"), ("why b -1", ("b", -1), "refused 1 low b, -1 wish b"),
        ):
            answer = console.enter(line)
            self.assertEqual(answer, shown)
            weights = read_weights(answer.removeprefix("refused "))
            self.assertIs(is_refusal(desk.present_sheet(), weights, wishes=[wish], held=["a"], limits=[("b", 0, 50)]),
                          True)
        self.assertEqual(told(console.desk_copy()), before)
        self.check(console, ("free a", "ok"), ("unlimit b", "ok"), ("least b", "endless"),
                   ("greatest total", "endless"),
                   ("limit a - 3.5", "ok"), ("greatest a", "7/2"), ("least a", "endless"),
                   ("why total 11", "possible b = 8"), ("limit b - 7", "ok"), ("why total 10.25", "possible a = 13/4"),
                   ("why total 10.5", "possible a = 7/2"), ("limit a - 3.25", "ok"), ("limit b - 7.5", "ok"),
                   ("why total 10.5", "possible b = 15/2"), ("why total 10.75", "possible a = 13/4, b = 15/2"))

    def test_formulas_with_spaces_and_line_feeds(self):
        console = Console()
        self.check(console, ("input a 1", "ok"), ("cell b  a ", "ok"), ("cell c   2 * (a + b)   ", "ok"),
                   ("show", "input a = 1 | cell b =  a  | cell c =   2 * (a + b)   "))
        self.assertEqual(console.desk_copy().present_sheet().rows()[1:], (
            ("b", "formula", " a "), ("c", "formula", "  2 * (a + b)   ")))
        self.assertEqual(read_desk(console.enter("show").replace(" | ", "\n")), console.desk_copy())
        for line in ("cell d \n", "cell d a\n", "define b \na", "define a  ", "cell d  ", "cell d a b", "cell d sum a",
                     "cell d - a |"):
            self.check_error_text(console, line, "error BadFormula")
        for line in ("cell d ", "define b ", "cell d", "define b", "cell", "define", "cell ", "cell  a", "cell\nd a",
                     "cell d\n a", " cell d a", "cell sum a", "define average a"):
            self.check_bad(console, line)
        self.check(console, ("define b a+a ", "ok"), ("value b", "2"))
        self.assertEqual(console.desk_copy().history()[-1], ("define", "b", "a+a "))

    def test_long_numbers(self):
        console = Console()
        digits = "7" * 4999
        self.check(console, ("input a -1/" + digits, "ok"), ("value a", "-1/" + digits),
                   ("cell b a*a/a", "error BadFormula"),
                   ("input c " + digits, "ok"), ("set c " + digits + "0", "c = " + digits + "0"))

    def test_cells_with_the_names_of_commands(self):
        console = Console()
        self.check(console, ("input input 1", "ok"), ("input cell 2", "ok"), ("cell set cell + input", "ok"),
                   ("set set 9 cell 2", "input = 7"), ("hold hold", "error UnknownCell"), ("hold set", "ok"),
                   ("show", "input input = 7 | input cell = 2 | cell set = cell + input | held set"))

    def test_copies(self):
        console = worked()
        desk = console.desk_copy()
        self.assertIsInstance(desk, Desk)
        before = told(desk)
        desk.free("a")
        desk.mark("other")
        desk.set_values([("a", 99)])
        self.assertEqual(told(console.desk_copy()), before)
        self.assertEqual(console.enter("value a"), "3")
        kept = console.desk_copy()
        console.enter("redo")
        console.enter("mark third")
        self.assertEqual(told(kept), before)
        self.assertEqual(kept.mark_words(), ("late",))
        self.assertNotEqual(told(console.desk_copy()), before)
        self.assertEqual(console.enter("show"), desk_text(console.desk_copy()).replace("\n", " | "))
        # Consoles do not share a desk.
        self.assertEqual(Console().enter("show"), "empty")


class BadCommandTest(ConsoleCase):

    def test_the_commands_of_the_table(self):
        for line in COMMANDS:
            with self.subTest(line=line):
                self.assertTrue(is_command(line))
                self.assertFalse(worked().enter(line).startswith("error"))

    def test_lines_that_are_no_commands(self):
        console = worked()
        for line in (
            "", " ", "\n", "help", "Show", "show ", " show", "show a", "steps 1", "undo 1", "redo a", "undo\n", "set",
            "set a",
            "set a 1 b", "set 1 a", "set a 1 2", "set a 1  b 2", "set a b", "set a 1/0", "set a 1,", "set sum 1",
            "set a -",
            "input a", "input a 1 2", "input 1 a", "input a -", "input a 1/0", "input a 1.", "input a .5", "input a +1",
            "input  a 1", "input a  1", "input a 1 ", "input a 1\n", "input A 1", "input abcdefghi 1",
            "input average 1",
            "limit a", "limit a 1", "limit a 1 2 3", "limit a - - -", "limit a -- 1", "limit a 1 none", "limit - 1 2",
            "limit a , 1", "hold", "hold a b", "hold -", "hold sum", "free", "free a b", "unlimit", "unlimit a b",
            "exchange a", "exchange a b c", "exchange a 1", "rename a", "rename a b c", "rename a sum", "rename a A",
            "rename a -", "mark", "mark a b", "mark 1", "mark sum", "back", "back a b", "back average", "back M",
            "value",
            "value a b", "value 1", "least", "least a b", "least a 1", "greatest", "greatest 1", "why a", "why a 1 2",
            "why 1 a", "why a -", "why a 1/0", "why a b 1", "remove", "remove a b", "remove 1", "add_input x 1",
            "set_values a 1", "exchange_roles a b", "inputs a 1", "history", "copy", "input\ta 1", "input a\n1",
        ):
            self.assertFalse(is_command(line), line)
            self.check_bad(console, line)

    def test_commands_with_one_thing_changed(self):
        counts = {True: 0, False: 0}
        console = worked()
        before = console.desk_copy()
        for line in COMMANDS:
            for changed in sorted(set(changed_lines(line))):
                good = is_command(changed)
                counts[good] += 1
                try:
                    answer = console.enter(changed)
                except errors.BadCommand as bad:
                    self.assertFalse(good, changed)
                    self.assertEqual(bad.line, changed)
                    self.assertEqual((console.desk_copy(), console.desk_copy().history()), (before, before.history()))
                else:
                    self.assertTrue(good, changed)
                    self.assertIsInstance(answer, str)
                    console = worked()
        self.assertGreater(min(counts.values()), 500)


class ErrorsTest(ConsoleCase):

    def test_exceptions_as_texts(self):
        console = worked()
        for line, word in (
            ("input a 1", "DuplicateCell"), ("cell total 1", "DuplicateCell"), ("cell x a b", "BadFormula"),
            ("cell x a*b", "BadFormula"), ("cell x a/0", "BadFormula"), ("cell x none", "UnknownCell"),
            ("cell x x", "CircularCell"), ("define a total", "CircularCell"), ("define none 1", "UnknownCell"),
            ("define a (", "BadFormula"), ("remove none", "UnknownCell"), ("remove a", "CellInUse"),
            ("rename none x", "UnknownCell"), ("rename a b", "DuplicateCell"), ("rename a a", "DuplicateCell"),
            ("set none 1", "UnknownCell"), ("set a 1 a 1", "DuplicateCell"), ("hold none", "UnknownCell"),
            ("hold a", "AlreadyHeld"), ("free b", "NotHeld"), ("free none", "UnknownCell"),
            ("limit none 2 1", "UnknownCell"),
            ("limit a 2 1", "EmptyLimit"), ("unlimit a", "NoLimit"), ("unlimit none", "UnknownCell"),
            ("exchange none a", "UnknownCell"), ("exchange a none", "UnknownCell"), ("exchange total a", "NotInput"),
            ("exchange a b", "NotComputed"), ("back none", "NoMark"), ("value none", "UnknownCell"),
            ("least none", "UnknownCell"), ("greatest none", "UnknownCell"), ("why none 1", "UnknownCell"),
        ):
            self.check_error_text(console, line, "error " + word)
        console.enter("cell same total - b")
        self.check_error_text(console, "exchange b same", "error RolesKept")
        console = Console()
        self.check_error_text(console, "undo", "error NothingToUndo")
        self.check_error_text(console, "redo", "error NothingToRedo")

    def test_refused_with_its_weights(self):
        console = worked()
        lists = {"held": ["a"], "limits": [("b", 0, 50)]}
        for line, more in (
            ("set total 54", {"wishes": [("total", 54)]}), ("set a 2", {"wishes": [("a", 2)]}),
            ("set total 5 b 3", {"wishes": [("total", 5), ("b", 3)]}),
            ("limit total 54 60", {"limits": [("b", 0, 50), ("total", 54, 60)]}), ("limit a - 2", {
                "limits": [("a", None, 2), ("b", 0, 50)]}),
        ):
            before = told(console.desk_copy())
            answer = console.enter(line)
            self.assertEqual(told(console.desk_copy()), before)
            self.assertTrue(answer.startswith("error Refused "), answer)
            weights = read_weights(answer.removeprefix("error Refused "))
            sheet = console.desk_copy().present_sheet()
            self.assertIs(is_refusal(sheet, weights, **{**lists, **more}), True)
        console.enter("hold total")
        answer = console.enter("define total 11")
        weights = read_weights(answer.removeprefix("error Refused "))
        changed = console.desk_copy().present_sheet().with_row(("total", "formula", "11"))
        self.assertIs(is_refusal(changed, weights, wishes=[("a", 3), ("total", 10)], limits=[("b", 0, 50)]), True)

    def test_an_error_forgets_nothing_that_was_undone(self):
        console = worked()
        for line in ("set total 1000", "hold none", "back none", "why none 1", "value none", "why total 5", "mark m",
                     "show"):
            console.enter(line)
        self.check(console, ("redo", "ok"), ("redo", "ok"), ("redo", "error NothingToRedo"), ("steps", "8"))


if __name__ == "__main__":
    cases.unittest.main()
