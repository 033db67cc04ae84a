import unittest

from wayorring.expressions import read_expression, write_expression
from wayorring.words import split_row

FORMS = [
    ("5", ("num", 5)),
    ("0", ("num", 0)),
    ("-5", ("num", -5)),
    ("9999999999", ("num", 9999999999)),
    ("-9999999999", ("num", -9999999999)),
    ("a", ("var", "a", 0)),
    ("range", ("var", "range", 0)),
    ("a + 1", ("var", "a", 1)),
    ("a - 1", ("var", "a", -1)),
    ("abcdefghijkl - 1000000", ("var", "abcdefghijkl", -1000000)),
    ("xs[0]", ("item", "xs", ("num", 0), 0)),
    ("xs[12]", ("item", "xs", ("num", 12), 0)),
    ("xs[-1]", ("item", "xs", ("num", -1), 0)),
    ("xs[i]", ("item", "xs", ("var", "i", 0), 0)),
    ("xs[i + 2]", ("item", "xs", ("var", "i", 2), 0)),
    ("xs[i - 2]", ("item", "xs", ("var", "i", -2), 0)),
    ("xs[0] + 3", ("item", "xs", ("num", 0), 3)),
    ("xs[-1] + 3", ("item", "xs", ("num", -1), 3)),
    ("xs[i] + 3", ("item", "xs", ("var", "i", 0), 3)),
    ("xs[i + 2] + 3", ("item", "xs", ("var", "i", 2), 3)),
    ("xs[i - 2] + 3", ("item", "xs", ("var", "i", -2), 3)),
    ("xs[0] - 3", ("item", "xs", ("num", 0), -3)),
    ("xs[-1] - 3", ("item", "xs", ("num", -1), -3)),
    ("xs[i] - 3", ("item", "xs", ("var", "i", 0), -3)),
    ("xs[i + 2] - 3", ("item", "xs", ("var", "i", 2), -3)),
    ("xs[i - 2] - 3", ("item", "xs", ("var", "i", -2), -3)),
]

WRONG = [
    "", " ", "-", "+", "+5", "+ 5", "--5", "- -5", "5-", "5 5", "5 + 1", "5 - 1", "-5 + 1", "5 a", "a 5", "a5", "5a",
    "a b", "a +", "a -", "+ a", "-a", "- a", "a + b", "a + -5", "a - -5", "a + - 5", "a ++ 5", "a + + 5", "a - - 5",
    "a + 1 + 1", "a + 1 - 1", "a + 1 b", "a + xs[0]", "a = 1", "a < 1", "(a)", "(5)", "a()", "a,", ",", ":", "a:",
    "xs[", "xs]", "xs[]", "[0]", "xs[0", "xs 0]", "xs[0]]", "xs[[0]", "xs[[0]]", "xs[xs[0]]", "xs[i][j]", "xs[0 1]",
    "xs[0)", "xs[i,", "xs[0 1", "xs[i + 1:", "xs[0) + 1", "xs[0 a - 1", "xs(0]", "xs(0)", "xs 0",
    "xs[i j]", "xs[i +]", "xs[+ 1]", "xs[i + j]", "xs[i + -1]", "xs[i + 1 + 1]", "xs[1 + 1]", "xs[0] +", "xs[0] -",
    "xs[0] + a", "xs[0] + -5", "xs[0] - -5", "xs[0] 5", "xs[0] + 5 5", "xs[0] + 5 + 5", "xs[--1]", "xs[(0)]",
    "5[0]", "(xs)[0]", "xs[0]()", "if", "list", "not", "to[0]", "xs[to]", "xs[row + 1]", "when + 1", "not a",
    "01", "00", "-01", "-00", "a + 01", "a - 00", "xs[01]", "xs[0] + 00", "12345678901", "-12345678901",
    "a + 12345678901", "xs[12345678901]", "xs[0] + 12345678901", "abcdefghijklm", "xs[abcdefghijklm]",
    "abcdefghijklm[0]", "A", "a_b", "a\n", "\na", "a\t+ 1", "a % 2", "a * 2", "!", "1.5", "\u00e9", "a + \u0661",
]


class ReadExpressionTest(unittest.TestCase):

    def test_each_form(self):
        for text, expression in FORMS:
            self.assertEqual(read_expression(text), expression, text)

    def test_spaces_do_not_matter(self):
        for text, expression in FORMS:
            close = text.replace(" ", "")
            wide = "   " + "   ".join(split_row(text)) + "  "
            self.assertEqual(read_expression(close), expression, close)
            self.assertEqual(read_expression(wide), expression, wide)
        self.assertEqual(read_expression("  -   5 "), ("num", -5))
        self.assertEqual(read_expression(" xs  [  - 1 ]  -  3 "), ("item", "xs", ("num", -1), -3))
        self.assertEqual(read_expression("a  -5"), ("var", "a", -5))

    def test_plus_zero_leaves_no_trace(self):
        self.assertEqual(read_expression("a + 0"), ("var", "a", 0))
        self.assertEqual(read_expression("a - 0"), ("var", "a", 0))
        self.assertEqual(read_expression("xs[i + 0] - 0"), ("item", "xs", ("var", "i", 0), 0))

    def test_minus_zero_is_zero(self):
        self.assertEqual(read_expression("-0"), ("num", 0))
        self.assertEqual(read_expression("- 0"), ("num", 0))
        self.assertEqual(read_expression("xs[-0]"), ("item", "xs", ("num", 0), 0))

    def test_a_negative_number_behind_a_sign(self):
        for text in ("a + -5", "a - -5", "a + -0", "xs[0] + -5", "xs[0] - -5", "xs[i + -1]", "xs[i - -1]"):
            self.assertIsNone(read_expression(text), text)

    def test_brackets_within_brackets(self):
        for text in ("xs[xs[0]]", "xs[ys[i]]", "xs[ys[0] + 1]", "xs[i[j]]", "xs[[i]]"):
            self.assertIsNone(read_expression(text), text)

    def test_texts_that_are_none(self):
        for text in WRONG:
            self.assertIsNone(read_expression(text), repr(text))


class WriteExpressionTest(unittest.TestCase):

    def test_each_form(self):
        for text, expression in FORMS:
            self.assertEqual(write_expression(expression), text)

    def test_plus_zero_is_not_written(self):
        self.assertEqual(write_expression(("var", "a", 0)), "a")
        self.assertEqual(write_expression(("item", "xs", ("var", "i", 0), 0)), "xs[i]")

    def test_what_is_read_is_written_in_its_form(self):
        self.assertEqual(write_expression(read_expression(" xs [i-1 ]+ 2")), "xs[i - 1] + 2")
        self.assertEqual(write_expression(read_expression("- 7")), "-7")
        self.assertEqual(write_expression(read_expression("-0")), "0")
        self.assertEqual(write_expression(read_expression("a - 0")), "a")


if __name__ == "__main__":
    unittest.main()
