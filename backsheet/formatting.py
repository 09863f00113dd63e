"""Texts of tables, sheets, limits, weights and desks, there and back."""

from backsheet.conditions import checked_sides
from backsheet.desk import desk_in_state
from backsheet.errors import BadText, InvalidText, Refused
from backsheet.forms import is_name
from backsheet.ratios import ratio_text, read_ratio
from backsheet.sheets import Sheet
from backsheet.solving import table_or_refusal

CONDITION_WORDS = ("formula", "held", "high", "low", "wish")

# Which kinds of lines may stand behind one of a kind in the text of a desk.
FOLLOWING_KINDS = {"row": ("row", "held", "limits"), "held": ("limits",), "limits": ()}


def table_text(table):
    """Write a table."""
    return ", ".join([name + " = " + ratio_text(number) for name, number in table])


def read_table(text):
    """Read pairs of a name and a number."""
    return all_read([read_entry(part) for part in parts_of(text)])


def sheet_text(sheet):
    """Write a sheet, one line for each row."""
    return "\n".join([row_text(row) for row in sheet.rows()])


def row_text(row):
    """Write a row of a sheet."""
    name, kind, content = row
    if kind == "input":
        return "input " + name + " = " + ratio_text(content)
    return "cell " + name + " = " + content


def read_sheet(text):
    """Read a sheet."""
    return Sheet(all_read([read_row(line) for line in lines_of(text)]))


def limits_text(limits):
    """Write limits."""
    return ", ".join([limit_text(limit) for limit in limits])


def limit_text(limit):
    """Write a limit."""
    name, low, high = limit
    text = name
    if low is not None:
        text += " from " + ratio_text(low)
    if high is not None:
        text += " to " + ratio_text(high)
    return text


def read_limits(text):
    """Read limits."""
    return all_read([read_limit(part) for part in parts_of(text)])


def weights_text(weights):
    """Write weights of conditions."""
    return ", ".join([ratio_text(factor) + " " + word + " " + name for (word, name), factor in weights])


def read_weights(text):
    """Read pairs of a condition and a number."""
    return all_read([read_weight(part) for part in parts_of(text)])


def desk_text(desk):
    """Write the state of a desk."""
    lines = [row_text(row) for row in desk.present_sheet().rows()]
    if desk.held_cells() != ():
        lines.append("held " + ", ".join(desk.held_cells()))
    if desk.present_limits() != ():
        lines.append("limits " + limits_text(desk.present_limits()))
    return "\n".join(lines)


def read_desk(text):
    """Read the state of a desk; return a new desk in this state."""
    rows, held, limits = [], (), ()
    last = "row"
    for at, line in enumerate(lines_of(text)):
        kind, content = read_line(line)
        if content is None or kind not in FOLLOWING_KINDS[last]:
            raise BadText(at)
        if kind == "row":
            rows.append(content)
        elif kind == "held":
            held = content
        else:
            limits = content
        last = kind
    return checked_desk(Sheet(rows), held, limits)


def checked_desk(sheet, held, limits):
    """Return a desk in a state, if the own table of the sheet keeps the limits."""
    # What is wrong with held cells has to be seen ahead of what is wrong with limits.
    checked_sides(sheet, (), held, limits)
    word, found = table_or_refusal(sheet, held=sheet.input_names(), limits=limits)
    if word == "refused":
        raise Refused(found)
    return desk_in_state(sheet, held, limits)


def read_line(line):
    """Read a line of a desk; return its kind and what it tells, None if it does not have its form."""
    if line.startswith("held "):
        return "held", read_names(line.removeprefix("held "))
    if line.startswith("limits "):
        return "limits", read_some_limits(line.removeprefix("limits "))
    return "row", read_row(line)


def lines_of(text):
    """Return the lines of a text, none of an empty one."""
    return [] if text == "" else text.split("\n")


def parts_of(text):
    """Return the parts of a text, none of an empty one."""
    return [] if text == "" else text.split(", ")


def all_read(found):
    """Return what was read, if it is None nowhere."""
    if None in found:
        raise BadText(found.index(None))
    return tuple(found)


def read_number(text):
    """Read a number, or return None."""
    try:
        return read_ratio(text)
    except InvalidText:
        return None


def read_entry(part):
    """Read a pair of a name and a number, or return None."""
    name, _, digits = part.partition(" = ")
    number = read_number(digits)
    if not is_name(name) or number is None:
        return None
    return (name, number)


def read_row(line):
    """Read a row of a sheet, or return None."""
    word, _, rest = line.partition(" ")
    name, _, content = rest.partition(" = ")
    if not is_name(name):
        return None
    if word == "cell" and content != "":
        return (name, "formula", content)
    number = read_number(content)
    if word == "input" and number is not None:
        return (name, "input", number)
    return None


def read_limit(part):
    """Read a limit, or return None."""
    name, *words = part.split(" ")
    bounds = read_bounds(words)
    if not is_name(name) or bounds is None:
        return None
    low, high = bounds
    return (name, low, high)


def read_bounds(words):
    """Read the bounds of a limit, or return None."""
    marks = words[::2]
    numbers = [read_number(word) for word in words[1::2]]
    if len(numbers) != len(marks) or None in numbers:
        return None
    if marks == []:
        return (None, None)
    if marks == ["from"]:
        return (numbers[0], None)
    if marks == ["to"]:
        return (None, numbers[0])
    if marks == ["from", "to"]:
        return (numbers[0], numbers[1])
    return None


def read_weight(part):
    """Read a pair of a condition and a number, or return None."""
    words = part.split(" ")
    if len(words) != 3:
        return None
    number = read_number(words[0])
    if number is None or words[1] not in CONDITION_WORDS or not is_name(words[2]):
        return None
    return ((words[1], words[2]), number)


def read_names(text):
    """Read one name or more, or return None."""
    names = text.split(", ")
    return tuple(names) if all([is_name(name) for name in names]) else None


def read_some_limits(text):
    """Read one limit or more, or return None."""
    limits = [read_limit(part) for part in text.split(", ")]
    return None if None in limits else tuple(limits)
