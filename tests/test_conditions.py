import itertools
import unittest

from wayorring.expressions import read_condition, write_condition


def small(name):
    return ("cmp", "<", ("var", name, 0), ("num", 1))


A, B, C, D, E = [small(name) for name in "abcde"]


def spell(text):
    """The text with each of the capital letters A to E replaced by a comparison."""
    for name in "ABCDE":
        text = text.replace(name, name.lower() + " < 1")
    return text


class ReadComparisonTest(unittest.TestCase):

    def test_each_sign(self):
        for sign in ("<", "<=", ">", ">=", "==", "!="):
            expected = ("cmp", sign, ("var", "a", 0), ("num", 5))
            self.assertEqual(read_condition("a " + sign + " 5"), expected)
            self.assertEqual(read_condition("a" + sign + "5"), expected)

    def test_each_form_of_expression(self):
        self.assertEqual(read_condition("-5 < -6"), ("cmp", "<", ("num", -5), ("num", -6)))
        self.assertEqual(read_condition("a + 1 < b - 2"), ("cmp", "<", ("var", "a", 1), ("var", "b", -2)))
        self.assertEqual(
            read_condition("xs[i - 1] + 2 >= ys[-3] - 4"),
            ("cmp", ">=", ("item", "xs", ("var", "i", -1), 2), ("item", "ys", ("num", -3), -4)),
        )

    def test_signs_without_spaces(self):
        self.assertEqual(read_condition("a<-5"), ("cmp", "<", ("var", "a", 0), ("num", -5)))
        self.assertEqual(read_condition("a-5<b"), ("cmp", "<", ("var", "a", -5), ("var", "b", 0)))

    def test_texts_that_are_none(self):
        texts = (
            "", " ", "a", "5", "<", "a <", "< a", "a < b < c", "a == b == c", "a = b", "a = = b", "a < = b", "a => b",
            "a <> b", "a ! b", "a ! = b", "a < b c", "a b < c", "a < < b", "a (< b)", "(a) < b", "a < (b)", "(a < b",
            "a < b)", "()", "(())", "(a)", "not", "not a", "not (a)", "a < b not", "a not < b", "not not", "a < not b",
            "and", "or", "A and", "and A", "A or", "or A", "A and and B", "A or or B", "A and or B", "A or and B",
            "A B", "A not B", "A and not", "A (B)", "(A) B", "(A)(B)", "(A and B", "A and B)", "A and (B or C",
            "(A]", "(A,", "(A B", "(A and B]", "(A and B:", "(A] or B", "(A, and B", "not (A]", "[A)",
            "(A))", "((A)", ")A(", "not(", "A, B", "A and B, C", "[A]", "xs[A] < 1", "a < xs[b < c]", "if A", "A end",
            "A and B then C", "a < 01", "a < 12345678901", "abcdefghijklm < 1", "row < 1", "a < row", "a < xs[xs[0]]",
            "a + b < c", "a < b + c", "a + -5 < c", "A\n", "A\nand B", "A\tand B", "A && B", "a < 1.5", "a % 2 == 0",
        )
        for text in texts:
            self.assertIsNone(read_condition(spell(text)), repr(spell(text)))


class ReadJoinedTest(unittest.TestCase):

    def check(self, text, condition):
        self.assertEqual(read_condition(spell(text)), condition, text)

    def test_not_binds_tighter_than_and_and_or(self):
        self.check("not A and B", ("and", (("not", A), B)))
        self.check("not A or B", ("or", (("not", A), B)))
        self.check("A and not B", ("and", (A, ("not", B))))
        self.check("A or not B", ("or", (A, ("not", B))))
        self.check("not (A and B)", ("not", ("and", (A, B))))
        self.check("not (A or B)", ("not", ("or", (A, B))))
        self.check("not not A", ("not", ("not", A)))
        self.check("not (A) and B", ("and", (("not", A), B)))

    def test_and_binds_tighter_than_or(self):
        self.check("A and B or C", ("or", (("and", (A, B)), C)))
        self.check("A or B and C", ("or", (A, ("and", (B, C)))))
        self.check("A and B or C and D", ("or", (("and", (A, B)), ("and", (C, D)))))
        self.check("A or B and C or D", ("or", (A, ("and", (B, C)), D)))
        self.check("(A or B) and C", ("and", (("or", (A, B)), C)))
        self.check("A and (B or C)", ("and", (A, ("or", (B, C)))))
        self.check("A and (B or C) and D", ("and", (A, ("or", (B, C)), D)))

    def test_chains_are_one_tuple(self):
        self.check("A and B and C", ("and", (A, B, C)))
        self.check("A or B or C", ("or", (A, B, C)))
        self.check("A and B and C and D and E", ("and", (A, B, C, D, E)))
        self.check("A or B or C or D or E", ("or", (A, B, C, D, E)))
        self.check("A and not B and C", ("and", (A, ("not", B), C)))

    def test_and_in_parentheses_within_an_and_stays(self):
        self.check("(A and B) and C", ("and", (("and", (A, B)), C)))
        self.check("A and (B and C)", ("and", (A, ("and", (B, C)))))
        self.check("A and (B and C) and D", ("and", (A, ("and", (B, C)), D)))
        self.check("A and ((B and C) and D)", ("and", (A, ("and", (("and", (B, C)), D)))))

    def test_or_in_parentheses_within_an_or_stays(self):
        self.check("(A or B) or C", ("or", (("or", (A, B)), C)))
        self.check("A or (B or C)", ("or", (A, ("or", (B, C)))))
        self.check("A or (B or C) or D", ("or", (A, ("or", (B, C)), D)))

    def test_parentheses_leave_no_other_trace(self):
        self.check("(A)", A)
        self.check("((A))", A)
        self.check("(A and B)", ("and", (A, B)))
        self.check("((A)) and ((B))", ("and", (A, B)))
        self.check("(A and B) or C", ("or", (("and", (A, B)), C)))
        self.check("A or (B and C)", ("or", (A, ("and", (B, C)))))
        self.check("(not A) and B", ("and", (("not", A), B)))
        self.check("not (not (A))", ("not", ("not", A)))
        self.check("not(A)and(B)or(C)", ("or", (("and", (("not", A), B)), C)))

    def test_long_chains(self):
        many = 2000
        self.assertEqual(read_condition(" and ".join(["a < 1"] * many)), ("and", (A,) * many))
        self.assertEqual(read_condition(" or ".join(["not (a < 1)"] * many)), ("or", (("not", A),) * many))


class MostOpenTest(unittest.TestCase):

    def wrapped(self, opened):
        """A comparison within parentheses "(" and nots "n"."""
        closed = ")" * opened.count("(")
        return opened.replace("n", "not ") + "a < 1" + closed

    def test_eight_and_nine_parentheses(self):
        self.assertEqual(read_condition(self.wrapped("(" * 8)), A)
        self.assertIsNone(read_condition(self.wrapped("(" * 9)))

    def test_eight_and_nine_nots(self):
        expected = A
        for _ in range(8):
            expected = ("not", expected)
        self.assertEqual(read_condition(self.wrapped("n" * 8)), expected)
        self.assertIsNone(read_condition(self.wrapped("n" * 9)))

    def test_mixed(self):
        for opened in itertools.product("n(", repeat=8):
            text = self.wrapped("".join(opened))
            expected = A
            for _ in range(opened.count("n")):
                expected = ("not", expected)
            self.assertEqual(read_condition(text), expected, text)
        for opened in itertools.product("n(", repeat=9):
            text = self.wrapped("".join(opened))
            self.assertIsNone(read_condition(text), text)

    def test_those_that_have_ended_do_not_count(self):
        self.assertEqual(read_condition(" and ".join(["(a < 1)"] * 9)), ("and", (A,) * 9))
        self.assertEqual(read_condition(" and ".join(["not a < 1"] * 9)), ("and", (("not", A),) * 9))
        self.assertEqual(read_condition(" or ".join(["not a < 1"] * 9)), ("or", (("not", A),) * 9))
        for most in ("n" * 8, "(" * 8, "n(" * 4, "(n" * 4, "nnnn((((", "((((nnnn"):
            full = self.wrapped(most)
            tree = read_condition(full)
            self.assertIsNotNone(tree)
            for word in ("and", "or"):
                self.assertEqual(read_condition(f"{full} {word} {full}"), (word, (tree, tree)))
                self.assertIsNone(read_condition(f"{full} {word} {self.wrapped(most + 'n')}"))
                self.assertIsNone(read_condition(f"{full} {word} {self.wrapped(most + '(')}"))
                self.assertIsNone(read_condition(f"{self.wrapped(most + 'n')} {word} {full}"))

    def test_a_not_ends_with_its_operand(self):
        seven = "(" * 7
        closed = ")" * 7
        self.assertIsNotNone(read_condition(f"{seven}not a < 1 and not b < 1{closed}"))
        self.assertIsNotNone(read_condition(f"{seven}not a < 1 or not b < 1 or (c < 1){closed}"))
        self.assertIsNone(read_condition(f"{seven}not a < 1 and not not b < 1{closed}"))
        self.assertIsNone(read_condition(f"{seven}not a < 1 and not (b < 1){closed}"))
        self.assertIsNone(read_condition(f"{seven}not (a < 1) and b < 1{closed}"))

    def test_a_not_stays_open_while_its_operand_goes_on(self):
        self.assertIsNotNone(read_condition("not (" * 4 + "a < 1 and b < 1" + ")" * 4))
        self.assertIsNone(read_condition("not (" * 4 + "a < 1 and not b < 1" + ")" * 4))
        self.assertIsNone(read_condition("not (" * 4 + "a < 1 and (b < 1)" + ")" * 4))

    def test_round_parentheses_alone_count(self):
        self.assertIsNotNone(read_condition("(" * 8 + "xs[0] < ys[i]" + ")" * 8))


class WriteConditionTest(unittest.TestCase):

    def check(self, condition, text):
        self.assertEqual(write_condition(condition), spell(text))

    def test_comparisons(self):
        for sign in ("<", "<=", ">", ">=", "==", "!="):
            condition = ("cmp", sign, ("item", "xs", ("var", "i", -1), 2), ("num", -5))
            self.assertEqual(write_condition(condition), f"xs[i - 1] + 2 {sign} -5")

    def test_below_not(self):
        self.check(("not", A), "not A")
        self.check(("not", ("not", A)), "not not A")
        self.check(("not", ("and", (A, B))), "not (A and B)")
        self.check(("not", ("or", (A, B))), "not (A or B)")
        self.check(("not", ("not", ("and", (A, B)))), "not not (A and B)")

    def test_below_and(self):
        self.check(("and", (A, B)), "A and B")
        self.check(("and", (A, B, C)), "A and B and C")
        self.check(("and", (("not", A), B)), "not A and B")
        self.check(("and", (A, ("or", (B, C)))), "A and (B or C)")
        self.check(("and", (("or", (A, B)), C)), "(A or B) and C")
        self.check(("and", (("and", (A, B)), C)), "(A and B) and C")
        self.check(("and", (A, ("and", (B, C)), D)), "A and (B and C) and D")

    def test_below_or(self):
        self.check(("or", (A, B)), "A or B")
        self.check(("or", (A, B, C)), "A or B or C")
        self.check(("or", (A, ("not", B))), "A or not B")
        self.check(("or", (A, ("and", (B, C)))), "A or B and C")
        self.check(("or", (("and", (A, B)), C)), "A and B or C")
        self.check(("or", (("or", (A, B)), C)), "(A or B) or C")
        self.check(("or", (A, ("or", (B, C)), D)), "A or (B or C) or D")

    def test_deeper(self):
        self.check(
            ("not", ("and", (("or", (A, ("and", (B, C)))), ("not", ("or", (D, ("not", E))))))),
            "not ((A or B and C) and not (D or not E))",
        )

    def test_written_forms_are_read_back(self):
        first = [A, B]
        second = first + [("not", c) for c in first] + [(w, p) for w in ("and", "or") for p in [(A, B), (A, B, C)]]
        third = [("not", c) for c in second]
        for word in ("and", "or"):
            third.extend((word, pair) for pair in itertools.product(second, repeat=2))
        fourth = [("not", c) for c in third]
        for word in ("and", "or"):
            fourth.extend((word, (c, D)) for c in third)
            fourth.extend((word, (D, c)) for c in third)
        for condition in second + third + fourth:
            text = write_condition(condition)
            self.assertEqual(read_condition(text), condition, text)

    def test_needless_parentheses_are_not_written(self):
        for text, written in (
            ("((A))", "A"),
            ("(A and B) or (C and D)", "A and B or C and D"),
            ("(not A) or (not (B))", "not A or not B"),
            ("not ((A and B))", "not (A and B)"),
            ("  A   and(B or  C)", "A and (B or C)"),
        ):
            self.assertEqual(write_condition(read_condition(spell(text))), spell(written))


if __name__ == "__main__":
    unittest.main()
