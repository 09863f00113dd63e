"""[12] and [13]: formulas."""

import itertools
import random
import unittest
from fractions import Fraction

from backsheet import errors
from backsheet.forms import form_text
from backsheet.formulas import parse_formula

A = ((("a", (1, 1)),), (0, 1))


def number(top, bottom=1):
    return ((), (top, bottom))


class Reader:
    """Another reader of the same grammar: by recursion, over dicts of Fractions ("" is the constant)."""

    def __init__(self, text):
        self.text = text
        self.tokens = list(self.tokens_of(text))
        self.at = 0

    def tokens_of(self, text):
        at = 0
        while at < len(text):
            end = at + 1
            if text[at].islower():
                while text[at:end + 1].isalpha() and text[at:end + 1].islower() and end < len(text):
                    end += 1
                if end - at > 8:
                    raise errors.FormulaSyntax(at)
            elif text[at].isdigit():
                while end < len(text) and text[end].isdigit():
                    end += 1
                if text[end:end + 1] == "." and text[end + 1:end + 2].isdigit():
                    end += 2
                    while end < len(text) and text[end].isdigit():
                        end += 1
            elif text[at] not in "+-*/(), ":
                raise errors.FormulaSyntax(at)
            if text[at] != " ":
                yield text[at:end], at
            at = end

    def next(self):
        return self.tokens[self.at] if self.at < len(self.tokens) else ("", len(self.text))

    def take(self, *words):
        word, position = self.next()
        if words and word not in words:
            raise errors.FormulaSyntax(position)
        self.at += 1
        return word, position

    def whole(self):
        tree = self.sum()
        if self.at < len(self.tokens):
            raise errors.FormulaSyntax(self.next()[1])
        return tree

    def sum(self):
        left = self.product()
        while self.next()[0] in ("+", "-"):
            left = (*self.take(), left, self.product())
        return left

    def product(self):
        left = self.factor()
        while self.next()[0] in ("*", "/"):
            left = (*self.take(), left, self.factor())
        return left

    def factor(self):
        word, position = self.take()
        if word == "-":
            return ("neg", position, self.factor())
        if word == "(":
            inner = self.sum()
            self.take(")")
            return inner
        if word in ("sum", "average"):
            self.take("(")
            parts = [self.sum()]
            while self.take(",", ")")[0] == ",":
                parts.append(self.sum())
            return (word + "s", position, *parts)
        if word == "" or word in "+*/),":
            raise errors.FormulaSyntax(position)
        return ("leaf", position, word)


def computed(tree):
    word, position, *parts = tree
    if word == "leaf":
        return {"": Fraction(parts[0])} if parts[0][0].isdigit() else {parts[0]: Fraction(1)}
    parts = [computed(part) for part in parts]
    if word == "neg":
        return times(-1, parts[0])
    if word == "+":
        return plus(parts)
    if word == "-":
        return plus([parts[0], times(-1, parts[1])])
    if word in ("sums", "averages"):
        return times(Fraction(1, len(parts) if word == "averages" else 1), plus(parts))
    one, other = parts
    cells = [any(name and part[name] for name in part) for part in parts]
    if cells[1] and (word == "/" or cells[0]):
        raise errors.NotLinear(position)
    if word == "/" and other.get("", 0) == 0:
        raise errors.ZeroDivisor(position)
    if word == "/":
        return times(1 / other[""], one)
    return times(one.get("", 0), other) if not cells[0] else times(other.get("", 0), one)


def plus(parts):
    total = {}
    for part in parts:
        for name in part:
            total[name] = total.get(name, 0) + part[name]
    return total


def times(factor, part):
    return {name: factor * part[name] for name in part}


def expected(text):
    """What parse_formula must do with a text: the form, or the exception's class and position."""
    try:
        found = computed(Reader(text).whole())
    except errors.SheetError as error:
        return error.__class__, error.position
    terms = [(name, found[name].as_integer_ratio()) for name in sorted(found) if name and found[name]]
    return tuple(terms), found.get("", Fraction(0)).as_integer_ratio()


def outcome(text):
    try:
        return parse_formula(text)
    except errors.SheetError as error:
        return error.__class__, error.position


class FormulaTest(unittest.TestCase):

    def check(self, text, form):
        self.assertEqual(parse_formula(text), form)
        self.assertEqual(parse_formula(text=text), form)

    def check_fault(self, text, kind, position):
        with self.assertRaises(errors.SheetError) as caught:
            parse_formula(text)
        self.assertIs(caught.exception.__class__, kind)
        self.assertEqual(caught.exception.position, position)

    def check_syntax(self, text, position):
        self.check_fault(text, errors.FormulaSyntax, position)


class GoodFormulasTest(FormulaTest):

    def test_examples(self):
        self.check("2*(a + b)/4 - a", ((("a", (-1, 2)), ("b", (1, 2))), (0, 1)))
        self.check("(a - a) * b", number(0))
        self.check_fault("a * b", errors.NotLinear, 2)
        self.check_syntax("sum + a", 4)

    def test_each_rule_of_the_grammar(self):
        for text, form in (
            ("7", number(7)), ("a", A), ("2.50", number(5, 2)), ("(7)", number(7)), ("-7", number(-7)),
            ("1 + 2", number(3)), ("1 - 2", number(-1)), ("3 * 2", number(6)), ("3 / 2", number(3, 2)),
            ("1 - 2 - 3", number(-4)), ("1 - (2 - 3)", number(2)), ("12 / 2 / 3", number(2)),
            ("12 / (2 / 3)", number(18)), ("12 / 2 * 3", number(18)), ("1 + 2 * 3", number(7)),
            ("(1 + 2) * 3", number(9)), ("1 - 2 + 3", number(2)), ("-2 - -3", number(1)), ("2 * -3", number(-6)),
            ("2 / -4", number(-1, 2)), ("2 --3", number(5)), ("-(1 + 2)", number(-3)), ("-2 + 3", number(1)),
            ("sum(7)", number(7)), ("sum(1, 2, 4)", number(7)), ("average(7)", number(7)),
            ("average(1, 2, 4)", number(7, 3)), ("average(1 + 2, -3)", number(0)), ("-sum(1, 2)", number(-3)),
            ("sum(average(1, 3), (4))*2", number(12)), ("6 / average(2, 4)", number(2)),
            ("a * 2", ((("a", (2, 1)),), (0, 1))), ("a / 2", ((("a", (1, 2)),), (0, 1))),
            ("b + a", ((("a", (1, 1)), ("b", (1, 1))), (0, 1))),
            ("average(a, b, 1)", ((("a", (1, 3)), ("b", (1, 3))), (1, 3))),
        ):
            with self.subTest(text):
                self.check(text, form)

    def test_spaces_have_no_meaning_between_tokens(self):
        self.check("  sum  (  1 , - 2 )  *  3  ", number(-3))
        self.check("sum(1,-2)*3", number(-3))
        self.check_syntax("1 2", 2)
        self.check_syntax("1 .5", 2)
        self.check_syntax("a b", 2)
        self.check_syntax("su m(a)", 3)

    def test_the_longest_token(self):
        self.check("sums", ((("sums", (1, 1)),), (0, 1)))
        self.check("averages", ((("averages", (1, 1)),), (0, 1)))
        self.check("asum", ((("asum", (1, 1)),), (0, 1)))
        self.check_syntax("suma(b)", 4)
        self.check_syntax("12a", 2)
        self.check_syntax("a12", 1)
        self.check_syntax("1.2.3", 3)
        self.check_syntax("1.2 .3", 4)

    def test_names_of_8_and_9_letters(self):
        self.check("abcdefgh", ((("abcdefgh", (1, 1)),), (0, 1)))
        self.check_syntax("1 + abcdefghi", 4)
        self.check_syntax("averagesum", 0)

    def test_points_without_digits(self):
        self.check_syntax("1.", 1)
        self.check_syntax("1. + 2", 1)
        self.check_syntax(".5", 0)
        self.check_syntax("a.5", 1)
        self.check_syntax("1.a", 1)

    def test_numbers_with_zeros_ahead_and_long_ones(self):
        self.check("007.50", number(15, 2))
        self.check("0", number(0))
        self.check("0.0", number(0))
        long = "123456789" * 22
        self.check(long, number(int(long)))
        self.check("0." + "0" * 197 + "5", number(1, 2 * 10 ** 197))
        self.check("1" + "0" * 9000, number(10 ** 9000))

    def test_200_characters_of_parentheses_and_signs(self):
        self.check("(" * 99 + "a" + ")" * 99, A)
        self.check("-" * 199 + "a", ((("a", (-1, 1)),), (0, 1)))
        self.check("-(" * 66 + "a" + ")" * 66, A)
        self.check("sum(" * 39 + "a" + ")" * 39, A)
        self.check("(" * 3000 + "a" + ")" * 3000, A)
        self.check("-" * 3001 + "a", ((("a", (-1, 1)),), (0, 1)))
        self.check_syntax("(" * 200, 200)
        self.check_syntax("-" * 200, 200)


class FaultyFormulasTest(FormulaTest):

    def test_words_of_functions(self):
        for text, position in (
            ("sum", 3), ("sum ", 4), ("sum a", 4), ("average", 7), ("sum()", 4), ("sum( )", 5), ("sum(,a)", 4),
            ("sum(a,)", 6), ("sum(a,,b)", 6), ("sum(a", 5), ("sum(a b)", 6), ("sum(a,", 6), ("sum * 2", 4),
            ("sum sum(a)", 4), ("a + average + b", 12), ("sum)", 3),
        ):
            with self.subTest(text):
                self.check_syntax(text, position)

    def test_characters_that_begin_no_token(self):
        for text, position in (
            ("A", 0), ("a + B", 4), ("aB", 1), ("a\n+ b", 1), ("a + b\n", 5), ("\n", 0), ("a ^ 2", 2), ("a_b", 1),
            ("2 ; 3", 2), ("a = 2", 2), ('"a"', 0), ("{a}", 0), ("a\\b", 1), ("a**b!", 4),
        ):
            with self.subTest(text):
                self.check_syntax(text, position)

    def test_such_a_character_comes_ahead_of_tokens_out_of_place(self):
        self.check_syntax(") ) ?", 4)
        self.check_syntax("a b c abcdefghi", 6)
        self.check_syntax("* 1.", 3)
        self.check_syntax("a * b * ?", 8)
        self.check_syntax("1 / 0 )", 6)

    def test_tokens_out_of_place(self):
        for text, position in (
            (")", 0), ("* a", 0), ("a +* b", 3), ("+a", 0), ("a, b", 1), ("(a, b)", 2), ("sum((a, b))", 6), ("a)", 1),
            ("()", 1), ("(a))", 3), ("a(b)", 1), ("2(a)", 1), ("(a)(b)", 3), ("(a) b", 4), ("a - + b", 4), ("/", 0),
            (",", 0), ("a */ b", 3), ("sum(a) b", 7), ("-)", 1), ("a 2", 2), ("2 a", 2), ("sum(a)(b)", 6),
            ("sum(a), b", 6),
        ):
            with self.subTest(text):
                self.check_syntax(text, position)

    def test_texts_that_end_too_early(self):
        for text in ("", "   ", "a +", "a +  ", "(a", "(a ", "-", "- ", "2 *", "((a)", "a -  -", "sum((a)",
            "sum(a, b  "):
            with self.subTest(text):
                self.check_syntax(text, len(text))

    def test_the_first_operator_that_cannot_be_performed(self):
        linear, zero = errors.NotLinear, errors.ZeroDivisor
        for text, kind, position in (
            ("a / b", linear, 2), ("1 / a", linear, 2), ("1 / 0", zero, 2), ("a / 0", zero, 2),
            ("a / (b - b)", zero, 2),
            ("0 / 0", zero, 2), ("a / (b - b + c)", linear, 2), ("a * (b / 0)", zero, 7), ("(a * b) / 0", linear, 3),
            ("1 / 0 + a * b", zero, 2), ("a * b + 1 / 0", linear, 2), ("a * b / 0", linear, 2), ("1 / 0 * a", zero, 2),
            ("c * (a * b)", linear, 7), ("sum(1, a * a, 1 / 0)", linear, 9), ("a*2*b", linear, 3),
            ("a + 2 * (b + 1 / 0)", zero, 15), ("-a * -a", linear, 3), ("2 / (1 - 1)", zero, 2),
            ("1 / average(a, b)", linear, 2), ("1 / sum(a, -a)", zero, 2), ("average(1 / 0, a * a)", zero, 10),
        ):
            with self.subTest(text):
                self.check_fault(text, kind, position)

    def test_cells_that_have_cancelled_do_not_count(self):
        self.check("b * (a - a + 2)", ((("b", (2, 1)),), (0, 1)))
        self.check("b / (a - a + 2)", ((("b", (1, 2)),), (0, 1)))
        self.check("0 * a * b", number(0))
        self.check("a - a", number(0))
        self.check("(a + b - a) * 2", ((("b", (2, 1)),), (0, 1)))


class AgainstAnotherReaderTest(unittest.TestCase):

    def test_all_texts_of_a_few_tokens(self):
        tokens = ["a", "0", "-", "+", "*", "/", "(", ")", "sum", ","]
        for length in range(6):
            for words in itertools.product(tokens, repeat=length):
                if length < 5 or words[0] in ("a", "-", "(", "sum") and words[4] in ("a", ")", "0"):
                    text = " ".join(words)
                    if outcome(text) != expected(text):
                        self.assertEqual(outcome(text), expected(text), text)

    def test_long_texts(self):
        source = random.Random(5)
        for turn in range(1500):
            text = self.formula(source, 4)
            if turn % 3 == 0:
                at = source.randrange(len(text))
                text = text[:at] + source.choice(["", " ", "a", ")", "(", "*", "2", ",", "?", "."]) + text[at + 1:]
            if outcome(text) != expected(text):
                self.assertEqual(outcome(text), expected(text), text)

    def formula(self, source, depth):
        kind = source.randrange(8) if depth else 0
        if kind == 0:
            return source.choice(["a", "b", "c", "0", "1", "2", "0.5", "13"])
        if kind == 1:
            return "-" + self.formula(source, 0)
        if kind == 2:
            return "(" + self.formula(source, depth - 1) + ")"
        if kind == 3:
            parts = [self.formula(source, depth - 1) for _ in range(source.randrange(1, 4))]
            return source.choice(["sum", "average"]) + "(" + ", ".join(parts) + ")"
        sign = source.choice(["+", " + ", " - ", "-", "*", " * ", "/"])
        return self.formula(source, depth - 1) + sign + self.formula(source, depth - 1)

    def test_the_text_of_each_form_read_back(self):
        ratios = ((0, 1), (1, 1), (-1, 1), (2, 1), (-2, 1), (1, 2), (-7, 3), (10 ** 90, 7), (-1, 10 ** 90))
        for one, two, constant in itertools.product(ratios, repeat=3):
            terms = [pair for pair in (("a", one), ("bb", two)) if pair[1] != (0, 1)]
            form = (tuple(terms), constant)
            self.assertEqual(parse_formula(form_text(form)), form)
        huge = ((("a", (-10 ** 9000, 7)),), (3 ** 20000, 10 ** 5000))
        self.assertEqual(parse_formula(form_text(huge)), huge)


if __name__ == "__main__":
    unittest.main()
