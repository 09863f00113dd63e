"""Systems of equations and bounds, solved with integers alone."""

from math import lcm

from backsheet.conditions import BOUND_WORDS
from backsheet.forms import scale_form
from backsheet.ratios import ONE, ZERO, divide, multiply, ratio
from backsheet.vectors import whole_scale

# Quantities have labels of two strings: the conditions, and these.
CONSTANT = ("constant", "")
GOAL = ("goal", "")
CHANGE_WORD = "change"
EQUATION_WORDS = ("held", "wish")


class System:
    """Some quantities, told by others.

    The quantities are the changes of the inputs, the left sides of conditions,
    and a goal. The bottom times the quantity of a line is the sum of the line's
    integers, each times the quantity of its column; the first column stands for
    1 / unit. Left sides and goals are multiplied by their scales, so that
    integers do for them.

    At any time the quantities of the other columns count as 0, and those of the
    lines as their constants.
    """

    def __init__(self, names, forms):
        self.names = names
        self.bottom = 1
        self.unit = 1
        self.columns = [CONSTANT, *[(CHANGE_WORD, name) for name in names]]
        self.lines = {}
        self.scales = {}
        for label in forms:
            self.add_scale(label, forms[label])
        for label in forms:
            self.add_line(label, forms[label])

    def add_scale(self, label, form):
        """Choose the scale of a quantity, and a unit that does for it."""
        terms, constant = form
        scale = whole_scale([factor for _, factor in terms])
        _, bottom = multiply(scale, constant)
        self.scales[label] = scale
        self.unit = lcm(self.unit, bottom)

    def add_line(self, label, form):
        """Add a quantity that is a form of the changes."""
        terms, constant = scale_form(self.scales[label], form)
        factors = dict(terms)
        tops = [factors.get(name, ZERO)[0] for name in self.names]
        self.lines[label] = [multiply(self.unit, constant)[0], *tops]

    def exchange(self, label, column):
        """Let the quantity of a line and the one of a column change their places."""
        row = self.lines[label]
        sign = -1 if row[column] < 0 else 1
        lines = {each: exchanged_line(self.lines[each], row, column, self.bottom)
                 for each in self.lines if each != label}
        line = [-sign * number for number in row]
        line[column] = sign * self.bottom
        lines[self.columns[column]] = line
        self.lines = lines
        self.columns[column] = label
        self.bottom = sign * row[column]

    def solve(self):
        """Find changes that keep all conditions.

        Returns None, or the label of a line that shows that there are none.
        """
        self.settle(EQUATION_WORDS)
        self.settle(BOUND_WORDS)
        for label in self.labels(EQUATION_WORDS):
            if self.lines[label][0] != 0:
                return label
        return self.mend()

    def settle(self, words):
        """Let conditions take the places of the changes in the columns."""
        for label in self.labels(words):
            line = self.lines[label]
            places = [at for at in self.places((CHANGE_WORD,)) if line[at] != 0]
            if places != []:
                self.exchange(label, places[0])

    def mend(self):
        """Bring all bounds to at least 0; return None, or the label of one that cannot get there."""
        while True:
            broken = [label for label in self.labels(BOUND_WORDS) if self.lines[label][0] < 0]
            if broken == []:
                return None
            # To take the first line and the first column, by their labels, never ends in a circle.
            line = self.lines[broken[0]]
            places = [at for at in self.places(BOUND_WORDS) if line[at] > 0]
            if places == []:
                return broken[0]
            self.exchange(broken[0], places[0])

    def descend(self):
        """Lower the goal; return None, or the column along which it falls without end."""
        while True:
            line = self.lines[GOAL]
            places = [at for at in self.places((CHANGE_WORD,)) if line[at] != 0]
            places.extend([at for at in self.places(BOUND_WORDS) if line[at] < 0])
            if places == []:
                return None
            label = self.first_stop(places[0])
            if label is None:
                return places[0]
            self.exchange(label, places[0])

    def first_stop(self, column):
        """Return the bound that first falls to 0 if the quantity of a column grows, or None."""
        first = None
        for label in self.labels(BOUND_WORDS):
            if self.lines[label][column] < 0 and (first is None or self.stops_ahead(label, first, column)):
                first = label
        return first

    def stops_ahead(self, label, other, column):
        """Return whether a bound falls to 0 ahead of another one if the quantity of a column grows."""
        line, other_line = self.lines[label], self.lines[other]
        return line[0] * other_line[column] > other_line[0] * line[column]

    def labels(self, words):
        """Return the labels of the lines that have one of some words, in ascending order."""
        return sorted([label for label in self.lines if label[0] in words])

    def places(self, words):
        """Return the columns whose labels have one of some words, in ascending order of the labels."""
        found = [(label, at) for at, label in enumerate(self.columns) if label[0] in words]
        return [at for _, at in sorted(found)]

    def refusal(self, label):
        """Return the weights of the conditions that the line of one of them contradicts."""
        sign = -1 if self.lines[label][0] > 0 else 1
        weights = {label: (sign, 1)}
        for each, weight in self.line_weights(label).items():
            weights[each] = multiply(-sign, weight)
        return weights

    def line_weights(self, label):
        """Return how often the left sides of conditions have a part in a quantity."""
        weights = {}
        for each, number in zip(self.columns, self.lines[label]):
            if each in self.scales and number != 0:
                share = ratio(number, self.bottom)
                weights[each] = divide(multiply(share, self.scales[each]), self.scales[label])
        return weights

    def goal(self):
        """Return the present value of the goal."""
        return divide(ratio(self.lines[GOAL][0], self.bottom * self.unit), self.scales[GOAL])

    def changes(self):
        """Return the present changes of the inputs."""
        return [(name, multiply((1, self.unit), self.share(name, 0))) for name in self.names]

    def fall(self, column):
        """Return changes of the inputs that lower the goal along a column."""
        sign = 1 if self.lines[GOAL][column] < 0 else -1
        return [(name, multiply(sign, self.share(name, column))) for name in self.names]

    def share(self, name, column):
        """Return how often the change of an input has the quantity of a column in it."""
        label = (CHANGE_WORD, name)
        if label in self.lines:
            return ratio(self.lines[label][column], self.bottom)
        return ONE if self.columns[column] == label else ZERO


def exchanged_line(line, row, column, bottom):
    """Return what becomes of a line when the quantities of a row and of a column change their places."""
    pivot, factor = row[column], line[column]
    sign = -1 if pivot < 0 else 1
    # All numbers are determinants of the first lines, so the bottom divides them.
    numbers = [sign * (pivot * number - factor * other) // bottom for number, other in zip(line, row)]
    numbers[column] = sign * factor
    return numbers
