import unittest

from wayorring.expressions import read_condition, read_expression
from wayorring.values import truth_of, value_of


def variables():
    return {"a": 3, "b": -2, "i": 0, "last": 2, "xs": [10, 20, 30], "ys": [-7]}


def value(text):
    return value_of(read_expression(text), variables())


def truth(text):
    return truth_of(read_condition(text), variables())


class ValueOfTest(unittest.TestCase):

    def test_each_form(self):
        for text, number in (
            ("5", 5), ("-5", -5), ("0", 0), ("a", 3), ("b", -2), ("a + 4", 7), ("a - 4", -1), ("b - 1", -3),
            ("xs[0]", 10), ("xs[2]", 30), ("xs[i]", 10), ("xs[i + 1]", 20), ("xs[a - 1]", 30), ("xs[b + 3]", 20),
            ("xs[0] + 5", 15), ("xs[1] - 5", 15), ("xs[last] + 1", 31), ("xs[last - 1] - 1", 19), ("ys[0]", -7),
            ("ys[i] + 7", 0), ("xs[-0]", 10),
        ):
            self.assertEqual(value(text), number, text)

    def test_an_index_outside(self):
        for text in (
            "xs[-1]", "xs[-3]", "xs[3]", "xs[4]", "xs[a]", "xs[b]", "xs[i - 1]", "xs[last + 1]", "ys[1]", "ys[-1]",
            "xs[3] + 1", "xs[-1] - 1", "xs[9999999999]", "xs[i + 3]", "xs[a + 0]", "ys[i + 1] + 5",
        ):
            self.assertIsNone(value(text), text)

    def test_an_index_by_a_variable_at_both_bounds(self):
        expression = read_expression("xs[a]")
        for at, number in ((-1, None), (0, 10), (2, 30), (3, None)):
            self.assertEqual(value_of(expression, {"a": at, "xs": [10, 20, 30]}), number)

    def test_great_integers(self):
        self.assertEqual(value_of(("var", "a", 1), {"a": 10 ** 40}), 10 ** 40 + 1)
        self.assertIsNone(value_of(("item", "xs", ("var", "a", 0), 0), {"a": 10 ** 40, "xs": [1]}))
        self.assertIsNone(value_of(("item", "xs", ("var", "a", 0), 0), {"a": -10 ** 40, "xs": [1]}))

    def test_the_variables_are_left_as_they_were(self):
        told = variables()
        value_of(read_expression("xs[i + 1] + 2"), told)
        value_of(read_expression("xs[3]"), told)
        truth_of(read_condition("a < 1 or xs[1] > a and not ys[4] == 2"), told)
        self.assertEqual(told, variables())
        self.assertEqual(list(told), list(variables()))


class TruthOfTest(unittest.TestCase):

    def test_each_sign(self):
        for sign, below, equal, above in (
            ("<", True, False, False), ("<=", True, True, False), (">", False, False, True),
            (">=", False, True, True), ("==", False, True, False), ("!=", True, False, True),
        ):
            self.assertIs(truth("a " + sign + " 4"), below, sign)
            self.assertIs(truth("a " + sign + " 3"), equal, sign)
            self.assertIs(truth("a " + sign + " 2"), above, sign)

    def test_sides_with_items(self):
        self.assertIs(truth("xs[0] + 10 == xs[1]"), True)
        self.assertIs(truth("xs[a - 1] < ys[i]"), False)

    def test_not_and_or(self):
        table = {"T": "1 == 1", "F": "1 == 2"}
        for text, expected in (
            ("not T", False), ("not F", True), ("not not T", True), ("T and T", True), ("T and F", False),
            ("F and T", False), ("F and F", False), ("T or T", True), ("T or F", True), ("F or T", True),
            ("F or F", False), ("T and T and F", False), ("T and T and T", True), ("F or F or T", True),
            ("F or F or F", False), ("not T or T", True), ("not (T or T)", False), ("T or T and F", True),
            ("(T or T) and F", False), ("not (F and F)", True), ("not F and F", False),
        ):
            spelled = text.replace("T", table["T"]).replace("F", table["F"])
            self.assertIs(truth(spelled), expected, text)

    def test_an_index_that_is_needed_is_outside(self):
        for text in (
            "xs[3] == 1", "1 == xs[3]", "xs[-1] == xs[3]", "xs[-1] < 1", "not xs[3] == 1", "not not xs[3] == 1",
            "xs[3] == 1 and 1 == 2", "1 == 1 and xs[3] == 1", "xs[3] == 1 or 1 == 1", "1 == 2 or xs[3] == 1",
            "1 == 2 or xs[3] == 1 or 1 == 1", "1 == 1 and xs[3] == 1 and 1 == 2", "xs[3] == xs[0]", "xs[0] == xs[3]",
            "not (1 == 1 and xs[3] == 1)", "1 == 2 or (1 == 1 and xs[b] == 1)", "xs[i - 1] != 4", "xs[a] >= 4",
        ):
            self.assertIsNone(truth(text), text)

    def test_an_index_that_is_not_needed_is_outside(self):
        for text, expected in (
            ("1 == 2 and xs[3] == 1", False), ("1 == 1 or xs[3] == 1", True),
            ("1 == 1 and 1 == 2 and xs[3] == 1", False), ("1 == 2 or 1 == 1 or xs[3] == 1", True),
            ("not (1 == 2 and xs[3] == 1)", True), ("not (1 == 1 or xs[3] == 1)", False),
            ("1 == 2 and xs[3] == 1 or 1 == 1", True), ("(1 == 1 or xs[3] == 1) and 1 == 2", False),
            ("1 == 2 and (xs[3] == 1 or xs[3] == 1) or 1 == 2", False),
        ):
            self.assertIs(truth(text), expected, text)


if __name__ == "__main__":
    unittest.main()
