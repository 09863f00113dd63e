"""Formulas: texts that mean forms."""

from backsheet.errors import FormulaSyntax, NotLinear, ZeroDivisor
from backsheet.forms import (
    FUNCTION_WORDS, NAME_LETTERS, add_forms, cell_form, constant_form, scale_form, subtract_forms,
)
from backsheet.ratios import ZERO, divide, read_ratio

DIGITS = "0123456789"
LETTERS = "abcdefghijklmnopqrstuvwxyz"
SIGNS = "+-*/(),"

# The sign ahead of a factor is another operator than the one between products.
# Its word has a space, so that no token is the same.
OPPOSITE = "- factor"

# Operators that bind closer have a higher rank; an open parenthesis has none.
RANKS = {"+": 1, "-": 1, "*": 2, "/": 2, "- factor": 3}
LOWEST_RANK = 1

# What may follow in a formula.
FACTOR = "a factor"
LIST = "the opening parenthesis of a list"
OPERATOR = "an operator, a comma, a closing parenthesis or the end"


def parse_formula(text):
    """Return the form that a formula means."""
    order = StepOrder()
    for word, position in tokens_of(text):
        order.take(word, position)
    order.finish(len(text))
    return result_of(order.steps)


def tokens_of(text):
    """Cut a text into its tokens, each one with its position."""
    tokens = []
    at = 0
    while at < len(text):
        end = token_end(text, at)
        if text[at] == " ":
            end = at + 1
        elif end == at:
            raise FormulaSyntax(at)
        else:
            tokens.append((text[at:end], at))
        at = end
    return tokens


def token_end(text, at):
    """Return where the token ends that begins at a place: at the same place if none begins there."""
    if text[at] in SIGNS:
        return at + 1
    end = run_end(text, at, LETTERS)
    if end > at:
        return end if end - at <= NAME_LETTERS else at
    return number_end(text, at)


def number_end(text, at):
    """Return where the number ends that begins at a place: at the same place if none begins there."""
    point = run_end(text, at, DIGITS)
    end = run_end(text, point + 1, DIGITS)
    if point > at and text[point:point + 1] == "." and end > point + 1:
        return end
    return point


def run_end(text, at, characters):
    """Return where a run of some characters ends that begins at a place."""
    while at < len(text) and text[at] in characters:
        at += 1
    return at


class StepOrder:
    """Puts the tokens of a formula in the order in which they are performed.

    A step is a word, its position, and how many results of steps ahead of it
    it takes. Operators and open parentheses wait until their last part is there.
    """

    def __init__(self):
        self.steps = []
        self.waiting = []
        self.expected = FACTOR

    def take(self, word, position):
        """Take the next token of the formula."""
        if self.expected == FACTOR:
            self.take_factor(word, position)
        elif self.expected == LIST:
            self.take_list(word, position)
        elif word in RANKS:
            self.release(RANKS[word])
            self.waiting.append((word, position, 2))
            self.expected = FACTOR
        else:
            self.take_end(word, position)

    def take_factor(self, word, position):
        """Take a token with which a factor begins."""
        if word == "-":
            self.waiting.append((OPPOSITE, position, 1))
        elif word == "(":
            self.waiting.append((word, position, 1))
        elif word in FUNCTION_WORDS:
            self.waiting.append((word, position, 1))
            self.expected = LIST
        elif word in SIGNS:
            raise FormulaSyntax(position)
        else:
            self.steps.append((word, position, 0))
            self.expected = OPERATOR

    def take_list(self, word, position):
        """Take the opening parenthesis behind a function's word."""
        if word != "(":
            raise FormulaSyntax(position)
        self.expected = FACTOR

    def take_end(self, word, position):
        """Take a comma or a closing parenthesis: the end of a part."""
        self.release(LOWEST_RANK)
        if word not in (",", ")") or self.waiting == []:
            raise FormulaSyntax(position)
        opened, begin, parts = self.waiting.pop()
        if word == "," and opened == "(":
            raise FormulaSyntax(position)
        if word == ",":
            self.waiting.append((opened, begin, parts + 1))
            self.expected = FACTOR
        elif opened != "(":
            self.steps.append((opened, begin, parts))

    def release(self, rank):
        """Let those of the operators that wait last be performed that have at least a rank."""
        while self.waiting != [] and RANKS.get(self.waiting[-1][0], 0) >= rank:
            self.steps.append(self.waiting.pop())

    def finish(self, length):
        """Take the end of the formula."""
        self.release(LOWEST_RANK)
        if self.expected != OPERATOR or self.waiting != []:
            raise FormulaSyntax(length)


def result_of(steps):
    """Perform the steps of a formula."""
    forms = []
    for word, position, count in steps:
        first = len(forms) - count
        parts = forms[first:]
        forms = forms[:first]
        forms.append(performed(word, position, parts))
    return forms[0]


def performed(word, position, parts):
    """Return the form that one step makes of its parts."""
    if word == OPPOSITE:
        return scale_form(-1, parts[0])
    if word == "-":
        return subtract_forms(parts[0], parts[1])
    if word == "*":
        return product_form(parts[0], parts[1], position)
    if word == "/":
        return quotient_form(parts[0], parts[1], position)
    if word == "+" or word == "sum":
        return total_form(parts)
    if word == "average":
        return scale_form(divide(1, len(parts)), total_form(parts))
    if word[0] in DIGITS:
        return constant_form(read_ratio(word))
    return cell_form(word)


def total_form(parts):
    """Return the sum of some forms."""
    total = constant_form(ZERO)
    for part in parts:
        total = add_forms(total, part)
    return total


def product_form(one, other, position):
    """Return the product of two forms, of which one must be a number."""
    one_terms, one_constant = one
    other_terms, other_constant = other
    if one_terms == ():
        return scale_form(one_constant, other)
    if other_terms == ():
        return scale_form(other_constant, one)
    raise NotLinear(position)


def quotient_form(one, other, position):
    """Return a form divided by another one, which must be a number other than zero."""
    terms, constant = other
    if terms != ():
        raise NotLinear(position)
    if constant == ZERO:
        raise ZeroDivisor(position)
    return scale_form(divide(1, constant), one)
