import unittest

from wayorring.checks import check_program
from wayorring.errors import BadProgram
from wayorring.reader import read_program
from wayorring.writer import write_program

HEAD = "input a from 0 to 9"
LIST = "input xs list 3 from 0 to 9"


def program_of(*rows):
    return read_program("\n".join(rows))


class Case(unittest.TestCase):

    def check_good(self, *rows):
        program = program_of(*rows)
        before = write_program(program)
        self.assertIsNone(check_program(program), rows)
        self.assertIsNone(check_program(program), rows)
        self.assertEqual(write_program(program), before)

    def check_wrong(self, row, *rows):
        program = program_of(*rows)
        for _ in range(2):
            with self.assertRaises(BadProgram, msg=rows) as caught:
                check_program(program)
            self.assertEqual(caught.exception.row, row, rows)


class SizesTest(Case):

    def test_sixty_and_sixty_one_rows(self):
        self.check_good(HEAD, *["skip"] * 59)
        self.check_wrong(61, HEAD, *["skip"] * 60)
        self.check_wrong(61, HEAD, *["skip"] * 100)

    def test_rows_of_blocks_and_functions_count(self):
        blocks = ["if a < 1", "skip", "else", "skip", "end", "while a < 1 at most 2", "skip", "end", "if a < 1", "end"]
        function = ["def f()", "if 1 < 2", "skip", "else", "skip", "end", "end"]
        rows = [HEAD, LIST] + function + blocks
        self.assertEqual(len(rows), 19)
        self.check_good(*rows, *["skip"] * 41)
        self.check_wrong(61, *rows, *["skip"] * 42)
        self.check_good(HEAD, *["skip"] * 54, *blocks[:5])
        self.check_wrong(61, HEAD, *["skip"] * 55, *blocks[:5])
        self.check_wrong(61, HEAD, *["skip"] * 58, "if a < 1", "end")
        self.check_good(HEAD, *["skip"] * 56, "if a < 1", "skip", "end")
        self.check_wrong(61, HEAD, *["skip"] * 57, "if a < 1", "skip", "end")
        self.check_good(HEAD, *["skip"] * 55, "if a < 1", "else", "skip", "end")
        self.check_wrong(61, HEAD, *["skip"] * 56, "if a < 1", "else", "skip", "end")
        self.check_wrong(61, HEAD, *["skip"] * 58, "while a < 1 at most 1", "end")

    def test_a_row_above_the_sixty_first_comes_first(self):
        self.check_wrong(30, HEAD, *["skip"] * 28, "return 1", *["skip"] * 40)
        self.check_wrong(60, HEAD, *["skip"] * 58, "return 1", "skip")
        self.check_wrong(61, HEAD, *["skip"] * 59, "return 1", "skip")
        self.check_wrong(61, HEAD, *["skip"] * 60, "return 1", "skip")

    def test_four_and_five_functions(self):
        functions = []
        for name in ("f", "g", "h", "i", "j"):
            functions += [f"def {name}()", "skip", "end"]
        self.check_good(HEAD, *functions[:12], "skip")
        self.check_wrong(14, HEAD, *functions, "skip")
        self.check_wrong(14, HEAD, *functions, "def k()", "skip", "end", "skip")

    def test_three_and_four_parameters(self):
        self.check_good(HEAD, "def f(x, y, z)", "return x", "end", "skip")
        self.check_wrong(2, HEAD, "def f(x, y, z, u)", "return x", "end", "skip")
        self.check_wrong(5, HEAD, "def f(x, y, z)", "return x", "end", "def g(x, y, z, u)", "return x", "end", "skip")

    def test_two_functions_of_one_name(self):
        self.check_wrong(5, HEAD, "def f()", "skip", "end", "def f(x)", "skip", "end", "skip")
        self.check_wrong(
            8, HEAD, "def f()", "skip", "end", "def g()", "skip", "end", "def f()", "skip", "end", "def g()", "skip",
            "end", "skip",
        )

    def test_two_parameters_of_one_name(self):
        self.check_wrong(2, HEAD, "def f(x, x)", "skip", "end", "skip")
        self.check_wrong(5, HEAD, "def f(x)", "skip", "end", "def g(x, y, x)", "skip", "end", "skip")
        self.check_good(HEAD, "def f(x)", "skip", "end", "def g(x)", "skip", "end", "skip")

    def test_six_and_seven_unknowns(self):
        plain = [f"input {name} from 0 to 9" for name in "abcdefghi"]
        self.check_good(*plain[:6], "skip")
        self.check_wrong(7, *plain[:7], "skip")
        self.check_wrong(7, *plain[:9], "skip")
        self.check_good(plain[0], "input xs list 5 from 0 to 9", "skip")
        self.check_wrong(2, plain[0], "input xs list 6 from 0 to 9", "skip")
        self.check_good("input xs list 6 from 0 to 9", "skip")
        self.check_wrong(2, "input xs list 6 from 0 to 9", plain[0], "skip")
        self.check_good(*plain[:3], "input xs list 3 from 0 to 9", "skip")
        self.check_wrong(4, *plain[:3], "input xs list 4 from 0 to 9", plain[4], "skip")
        self.check_wrong(3, LIST, "input ys list 3 from 0 to 9", "input b from 0 to 9", "skip")

    def test_size_six_and_seven(self):
        self.check_good("input xs list 6 from 0 to 9", "skip")
        self.check_wrong(1, "input xs list 7 from 0 to 9", "skip")
        self.check_wrong(1, "input xs list 9999999999 from 0 to 9", "skip")
        self.check_good(HEAD, "list ys 6 = a", "list zs 6 = 1", "list us 1 = 1")
        self.check_wrong(3, HEAD, "list ys 6 = a", "list zs 7 = 1")
        self.check_wrong(2, HEAD, "list ys 9999999999 = a")


class RangesTest(Case):

    def test_lo_not_above_hi(self):
        for lo, hi in ((5, 5), (-3, -3), (-4, -3), (0, 0)):
            self.check_good(f"input a from {lo} to {hi}", "skip")
            self.check_good(f"input a list 2 from {lo} to {hi}", "skip")
            self.check_good(HEAD, f"let c from {lo} to {hi} = a")
        for lo, hi in ((5, 4), (-3, -4), (0, -1)):
            self.check_wrong(1, f"input a from {lo} to {hi}", "skip")
            self.check_wrong(2, HEAD, f"input b list 2 from {lo} to {hi}", "skip")
            self.check_wrong(3, HEAD, "skip", f"let c from {lo} to {hi} = a")

    def test_the_ends_of_the_ranges(self):
        most = 1000000000
        for lo, hi in ((-most, most), (most, most), (-most, -most)):
            self.check_good(f"input a from {lo} to {hi}", "skip")
            self.check_good(f"input a list 2 from {lo} to {hi}", "skip")
            self.check_good(HEAD, f"let c from {lo} to {hi} = a")
        for lo, hi in ((-most - 1, 0), (0, most + 1), (most + 1, most + 1), (-most - 1, -most - 1)):
            self.check_wrong(1, f"input a from {lo} to {hi}", "skip")
            self.check_wrong(1, f"input a list 2 from {lo} to {hi}", "skip")
            self.check_wrong(2, HEAD, f"let c from {lo} to {hi} = a")
        self.check_wrong(3, HEAD, "def f()", f"let c from 0 to {most + 1} = 1", "end", "skip")


class VariablesTest(Case):

    def test_each_body_has_its_own_variables(self):
        self.check_good(HEAD, "def f(a)", "let c = a", "return c", "end", "let c = a")
        self.check_good(HEAD, LIST, "def f(xs, c)", "let a = xs", "return a", "end", "def g(c)", "list a 2 = c", "end",
                        "let c = a")
        self.check_wrong(3, HEAD, "def f(x)", "return a", "end", "skip")
        self.check_wrong(3, HEAD, "def f(x)", "a = x", "end", "skip")
        self.check_wrong(6, HEAD, "def f(x)", "let c = x", "return c", "end", "answer c")
        self.check_wrong(5, HEAD, "def f(x)", "return x", "end", "answer x")
        self.check_wrong(6, HEAD, "def f(x)", "return x", "end", "def g(y)", "return x", "end", "skip")
        self.check_wrong(3, HEAD, "def f()", "return c", "end", "let c = 1")

    def test_declarations_stand_directly_in_a_body(self):
        self.check_wrong(3, HEAD, "if a < 1", "let c = 1", "end")
        self.check_wrong(4, HEAD, "if a < 1", "else", "let c = 1", "end")
        self.check_wrong(3, HEAD, "while a < 1 at most 2", "let c = 1", "end")
        self.check_wrong(3, HEAD, "if a < 1", "list c 2 = 1", "end")
        self.check_wrong(4, HEAD, "skip", "while a < 1 at most 2", "list c 2 = 1", "end")
        self.check_wrong(4, HEAD, "def f(x)", "if x < 1", "let c = 1", "end", "end", "skip")
        self.check_good(HEAD, "if a < 1", "end", "let c = 1", "while a < 1 at most 1", "end", "list d 2 = 1")

    def test_no_name_is_declared_twice(self):
        self.check_wrong(2, HEAD, HEAD, "skip")
        self.check_wrong(2, HEAD, "input a list 2 from 0 to 9", "skip")
        self.check_wrong(3, LIST, HEAD, "input xs from 0 to 9", "skip")
        self.check_wrong(2, HEAD, "let a = 1")
        self.check_wrong(2, HEAD, "list a 2 = 1")
        self.check_wrong(2, LIST, "list xs 2 = 1")
        self.check_wrong(4, HEAD, "let c = 1", "skip", "let c = 1")
        self.check_wrong(3, HEAD, "let c = 1", "list c 1 = 1")
        self.check_wrong(3, HEAD, "list c 1 = 1", "let c = 1")
        self.check_wrong(3, HEAD, "def f(x)", "let x = 1", "end", "skip")
        self.check_wrong(4, HEAD, "def f(x)", "let y = 1", "list y 1 = 1", "end", "skip")

    def test_a_function_may_have_the_name_of_a_variable(self):
        self.check_good(HEAD, "def a(f)", "let a = f", "return a", "end", "let f = 1", "f = a(f)", "let c = 1",
            "c = a(c)")
        self.check_good(HEAD, "def f(f)", "f = f + 1", "return f", "end", "let f = 1", "f = f(f)")

    def test_a_name_in_its_own_row(self):
        self.check_wrong(2, HEAD, "let c = c")
        self.check_wrong(2, HEAD, "let c = c + 1", "answer c")
        self.check_wrong(2, HEAD, "let c from 0 to 9 = c")
        self.check_wrong(2, HEAD, "list ys 2 = ys[0]")
        self.check_wrong(3, HEAD, "def f(x)", "let c = c", "end", "skip")

    def test_a_name_above_its_declaration(self):
        self.check_wrong(2, HEAD, "answer c", "let c = 1")
        self.check_wrong(2, HEAD, "c = 1", "let c = 1")
        self.check_wrong(2, HEAD, "ys[0] = 1", "list ys 2 = 1")
        self.check_wrong(3, HEAD, "if a < 1", "check c < 1", "end", "let c = 1")
        self.check_good(HEAD, "let c = 1", "c = c + 1", "list ys 2 = c", "ys[0] = ys[1]")

    def test_a_name_that_is_not_declared(self):
        for row in (
            "answer c", "answer c + 1", "let d = c", "list d 2 = c", "let d = c[0]", "check c < 1", "check 1 < c",
            "check a < 1 and not (1 < 2 or c < 1)", "answer xs[c]", "answer xs[c + 1]", "check xs[0] < xs[c - 1]",
            "answer c[0]", "c = 1", "c[0] = 1", "ys[c] = 1", "ys[0] = c", "e = c", "e = f(c)", "e = f(1, c)",
            "c = f(1, 1)",
        ):
            self.check_wrong(8, HEAD, LIST, "def f(x, y)", "skip", "end", "let e = 1", "list ys 2 = 1", row)

    def test_a_name_in_a_block(self):
        self.check_good(HEAD, "let c = 1", "if a < 1", "while c < 1 at most 2", "c = a", "end", "else", "c = c + 1",
            "end")
        self.check_wrong(4, HEAD, "if a < 1", "while a < 1 at most 2", "answer c", "end", "end", "let c = 1")
        self.check_wrong(3, HEAD, "if a < 1", "if c < 1", "end", "end")
        self.check_wrong(3, HEAD, "if a < 1", "while c < 1 at most 2", "end", "end")
        self.check_wrong(5, HEAD, "if a < 1", "skip", "else", "c = 1", "end")

    def test_a_list_as_a_number_and_a_number_as_a_list(self):
        above = (HEAD, LIST, "def f(x)", "skip", "end", "let e = 1", "list ys 2 = 1")
        for row in (
            "answer xs", "answer xs + 1", "answer ys - 1", "let c = xs", "list c 2 = ys", "check xs < 1",
            "check 1 < ys",
            "e = xs", "ys = 1", "ys = e", "ys = f(1)", "e = f(xs)", "e = f(ys + 1)", "answer xs[ys]",
            "answer ys[xs + 1]",
            "ys[xs] = 1", "ys[0] = ys",
            "answer a[0]", "answer e[a] + 1", "let c = a[0]", "check e[0] < 1", "check 1 < a[a]", "e[0] = 1",
            "e = e[0]",
            "ys[0] = e[0]",
        ):
            self.check_wrong(8, *above, row)
        for row in (
            "answer xs[0]", "answer xs[a]", "answer ys[e + 1] - 1", "let c = xs[a]", "list c 2 = ys[0]",
            "check xs[a] < ys[e]",
            "e = a", "e = xs[0]", "ys[0] = 1", "ys[a] = xs[e]", "ys[e - 1] = e", "e = f(a)", "e = f(e + 1)",
            "answer ys[-1]",
        ):
            self.check_good(*above, row)
        self.check_wrong(3, HEAD, "def f(x)", "return x[0]", "end", "skip")
        self.check_wrong(3, HEAD, "def f(x)", "x[0] = 1", "end", "skip")
        self.check_wrong(4, HEAD, "def f(x)", "list y 2 = x", "return y", "end", "skip")

    def test_inputs_are_never_assigned(self):
        self.check_wrong(2, HEAD, "a = 1")
        self.check_wrong(3, HEAD, LIST, "xs[0] = 1")
        self.check_wrong(3, HEAD, LIST, "xs = 1")
        self.check_wrong(3, HEAD, LIST, "a[0] = 1")
        self.check_wrong(5, HEAD, "def f()", "skip", "end", "a = f()")
        self.check_wrong(3, HEAD, "if a < 1", "a = 1", "end")
        self.check_good(HEAD, "let c = a", "c = 1", "list ys 2 = a", "ys[0] = 1")

    def test_parameters_may_be_assigned(self):
        self.check_good(HEAD, "def g()", "skip", "end", "def f(a, xs)", "a = 1", "xs = g()", "return xs", "end", "skip")


class CallsTest(Case):
    F = ("def f(x)", "return x", "end")
    G = ("def g()", "let y = 1", "y = f(y)", "return y", "end")

    def test_a_function_that_is_defined_above(self):
        self.check_good(HEAD, *self.F, "let c = 1", "c = f(c)")
        self.check_good(HEAD, *self.F, *self.G, "let c = 1", "c = g()", "c = f(1)")

    def test_a_function_that_is_not_defined(self):
        self.check_wrong(3, HEAD, "let c = 1", "c = f(c)")
        self.check_wrong(6, HEAD, *self.F, "let c = 1", "c = c(c)")
        self.check_wrong(4, HEAD, "let c = 1", "if a < 1", "c = f(c)", "end")

    def test_a_function_that_calls_itself(self):
        self.check_wrong(3, HEAD, "def f(x)", "x = f(x)", "return x", "end", "skip")
        self.check_wrong(4, HEAD, "def f(x)", "if x < 1", "x = f(x)", "end", "end", "skip")

    def test_a_function_that_is_defined_below(self):
        self.check_wrong(4, HEAD, *self.G, *self.F, "skip")

    def test_the_number_of_arguments(self):
        functions = ("def f()", "skip", "end", "def g(x)", "skip", "end", "def h(x, y, z)", "skip", "end")
        for call, good in (
            ("f()", True), ("f(1)", False), ("g()", False), ("g(1)", True), ("g(1, 2)", False), ("h(1, 2)", False),
            ("h(1, 2, 3)", True), ("h(1, 2, 3, 4)", False), ("h()", False),
        ):
            rows = (HEAD, *functions, "let c = 1", "skip", "c = " + call)
            if good:
                self.check_good(*rows)
            else:
                self.check_wrong(13, *rows)
        self.check_wrong(6, HEAD, *self.F, "def g(y)", "y = f()", "end", "skip")


class NumbersTest(Case):

    def test_numbers_in_expressions(self):
        above = (HEAD, LIST, "def f(x)", "skip", "end", "let e = 1", "list ys 2 = 1")
        for row in (
            "let c = N", "let c from 0 to 9 = a + N", "let c = a - N", "let c = -N", "list c 2 = N", "list c 2 = a - N",
            "e = N", "e = -N", "e = a + N", "e = xs[0] - N", "e = xs[N]", "e = xs[-N] + 1", "e = xs[a + N]",
            "e = xs[a - N]",
            "ys[N] = 1", "ys[-N] = 1", "ys[a + N] = 1", "ys[0] = N", "ys[0] = xs[0] + N", "ys[0] = xs[N]", "e = f(N)",
            "e = f(-N)", "e = f(a + N)", "check a < N", "check -N < a", "check a - N < a", "check xs[a - N] < 1",
            "check 1 < 2 or not (1 < xs[0] + N and 1 < 2)", "answer N", "answer a + N", "answer xs[0] - N",
            "answer xs[N]",
        ):
            self.check_good(*above, row.replace("N", "999999"))
            self.check_wrong(8, *above, row.replace("N", "1000000"))
        for row in ("if a < N", "while a + N < 1 at most 2", "if xs[a - N] == 1", "while xs[N] == 1 at most 2"):
            self.check_good(*above, row.replace("N", "999999"), "end")
            self.check_wrong(8, *above, row.replace("N", "1000000"), "end")
        self.check_good(HEAD, "def f()", "return -999999", "end", "skip")
        self.check_wrong(3, HEAD, "def f()", "return -1000000", "end", "skip")

    def test_at_most(self):
        for most in (1, 2, 7, 8):
            self.check_good(HEAD, f"while a < 1 at most {most}", "end")
        for most in (0, 9, 10, 9999999999):
            self.check_wrong(2, HEAD, f"while a < 1 at most {most}", "end")
        self.check_wrong(3, HEAD, "def f(x)", "while x < 1 at most 9", "end", "end", "skip")


class ConditionsTest(Case):

    def check_both(self, good, condition):
        """The condition in an if, a while and a check."""
        for row in ("if C", "while C at most 2", "check C"):
            rows = [HEAD, "skip", row.replace("C", condition)] + ["end"] * (row != "check C")
            if good:
                self.check_good(*rows)
            else:
                self.check_wrong(3, *rows)

    def test_six_and_seven_comparisons(self):
        self.check_both(True, " and ".join(["a < 1"] * 6))
        self.check_both(False, " and ".join(["a < 1"] * 7))
        self.check_both(True, " or ".join(["a < 1"] * 6))
        self.check_both(False, " or ".join(["a < 1"] * 7))
        self.check_both(True, "a < 1 and a < 1 or not a < 1 and (a < 1 or a < 1) or a < 1")
        self.check_both(False, "a < 1 and a < 1 or not a < 1 and (a < 1 or a < 1) or a < 1 or a < 1")

    def test_four_and_five_deep(self):
        self.check_both(True, "not not not not a < 1")
        self.check_both(False, "not not not not not a < 1")
        self.check_both(True, "a < 1 or a < 1 and not (a < 1 or a < 1)")
        self.check_both(False, "a < 1 or a < 1 and not (a < 1 or not a < 1)")
        self.check_both(True, "a < 1 and (a < 1 and (a < 1 and (a < 1 and a < 1)))")
        self.check_both(False, "a < 1 and (a < 1 and (a < 1 and (a < 1 and not a < 1)))")
        self.check_both(False, "not (not not not not a < 1 or a < 1)")
        self.check_both(False, "a < 1 or not not not not a < 1")
        self.check_both(False, "not not not not a < 1 or a < 1")
        self.check_both(True, "((((((((a < 1))))))))")


class BlocksTest(Case):
    IF = "if a < 1"
    LOOP = "while a < 1 at most 1"

    def test_five_and_six_deep(self):
        for heads in ([self.IF] * 6, [self.LOOP] * 6, [self.IF, self.LOOP] * 3):
            self.check_good(HEAD, *heads[:5], "skip", *["end"] * 5)
            self.check_wrong(8, HEAD, *heads, "skip", *["end"] * 6)

    def test_the_sixth_head_lies_in_five(self):
        self.check_good(HEAD, *[self.IF] * 6, *["end"] * 6)
        self.check_wrong(8, HEAD, *[self.IF] * 7, *["end"] * 7)

    def test_in_an_else(self):
        rows = [HEAD]
        for _ in range(5):
            rows += [self.IF, "else"]
        self.check_good(*rows, "skip", *["end"] * 5)
        self.check_wrong(14, *rows, self.IF, "else", "skip", *["end"] * 6)

    def test_in_a_function_its_own_blocks_count(self):
        heads = ["if x < 1"] * 6
        self.check_good(HEAD, "def f(x)", *heads[:5], "skip", *["end"] * 6, "skip")
        self.check_wrong(9, HEAD, "def f(x)", *heads, "skip", *["end"] * 7, "skip")

    def test_blocks_one_behind_the_other(self):
        self.check_good(HEAD, *[self.IF] * 5, "end", self.IF, "skip", *["end"] * 5)


class WordsTest(Case):

    def test_return_stands_in_functions_only(self):
        self.check_good(HEAD, "def f()", "return 1", "end", "skip")
        self.check_good(HEAD, "def f(x)", "if x < 1", "return 1", "end", "end", "skip")
        self.check_wrong(2, HEAD, "return 1")
        self.check_wrong(3, HEAD, "if a < 1", "return 1", "end")

    def test_answer_stands_outside_of_functions_only(self):
        self.check_good(HEAD, "answer 1")
        self.check_good(HEAD, "while a < 1 at most 2", "answer 1", "end")
        self.check_wrong(3, HEAD, "def f()", "answer 1", "end", "skip")
        self.check_wrong(4, HEAD, "def f(x)", "if x < 1", "answer 1", "end", "end", "skip")

    def test_the_name_behind_refuse(self):
        for word in ("range", "index", "turns"):
            self.check_wrong(2, HEAD, "refuse " + word)
            self.check_wrong(4, HEAD, "def f(x)", "if x < 1", "refuse " + word, "end", "end", "skip")
            self.check_good(HEAD, "refuse " + word + "x")
        self.check_good(HEAD, "refuse a")
        self.check_good(HEAD, "refuse bad")
        self.check_good(HEAD, "let range = 1", "let index = range", "let turns = index", "answer turns")


class FirstRowTest(Case):

    def test_the_first_of_two_wrong_rows(self):
        self.check_wrong(2, HEAD, "return 1", "answer c")
        self.check_wrong(1, "input a from 9 to 0", "a = 1")
        self.check_wrong(3, HEAD, "def f()", "answer 1", "end", "a = 1")
        self.check_wrong(3, HEAD, "def f()", "answer 1", "end", "def f()", "skip", "end", "skip")
        self.check_wrong(2, HEAD, "def f(x, x)", "answer 1", "end", "skip")
        self.check_wrong(3, HEAD, "if a < 1", "let c = 1", "else", "c = c[0]", "end")
        self.check_wrong(2, HEAD, "if c < 1", "refuse index", "end")
        self.check_wrong(4, HEAD, "if a < 1", "else", "refuse index", "end", "refuse index")
        self.check_wrong(5, HEAD, "def f()", "skip", "end", "a = f(1)", "refuse range")
        self.check_wrong(2, HEAD, "input a from 9 to 0", "input b list 7 from 0 to 1", "skip")

    def test_a_wrong_body_above_a_fifth_function(self):
        functions = []
        for name in ("f", "g", "h", "i", "j"):
            functions += [f"def {name}()", "skip", "end"]
        functions[10] = "answer 1"
        self.check_wrong(12, HEAD, *functions, "skip")
        functions[10] = "skip"
        functions[13] = "answer 1"
        self.check_wrong(14, HEAD, *functions, "skip")


if __name__ == "__main__":
    unittest.main()
