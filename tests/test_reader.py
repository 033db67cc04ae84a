import unittest

from samples import LATER
from wayorring.errors import BadText
from wayorring.program import Program
from wayorring.reader import read_program

X = ("var", "x", 0)
TOP = ("var", "top", 0)
A = ("var", "a", 0)
I = ("var", "i", 0)
BEST = ("var", "best", 0)
ITEM = ("item", "xs", I, 0)
THREE = ("num", 3)
FULL_INPUTS = (("a", 0, 0, 99), ("xs", 3, -5, 1000000))
FULL_FUNCTIONS = (
    (
        3, "later", ("x", "top"),
        (("if", 4, ("cmp", "<", X, TOP), (("return", 5, ("var", "x", 1)),), ()), ("return", 7, TOP)),
    ),
)
FULL_BODY = (
    ("let", 9, "i", None, None, ("num", 0)),
    ("let", 10, "best", 0, 2000000, A),
    (
        "while", 11, ("cmp", "<", I, THREE), 3,
        (
            (
                "if", 12, ("and", (("cmp", ">", ITEM, BEST), ("not", ("cmp", "==", ITEM, A)))),
                (("set", 13, "best", ITEM),), (),
            ),
            ("call", 15, "i", "later", (I, THREE)),
        ),
    ),
    ("check", 17, ("cmp", ">=", BEST, A)),
    ("answer", 18, ("var", "best", -1)),
)
HEAD = "input a from 0 to 9"
SMALL = ("cmp", "<", A, ("num", 1))


def text(*rows):
    return "\n".join(rows)


def read_row(row):
    """The statement that a row is, as the second row of a program."""
    return read_program(text(HEAD, row)).body[0]


class Case(unittest.TestCase):

    def check_wrong(self, row, *rows):
        with self.assertRaises(BadText, msg=rows) as caught:
            read_program(text(*rows))
        self.assertEqual(caught.exception.row, row, rows)

    def check_wrong_row(self, row):
        """The row is wrong as a statement; rows before and behind it are not."""
        self.check_wrong(3, HEAD, "skip", row, "skip")


class ReadProgramTest(Case):

    def test_the_whole_program(self):
        program = read_program(LATER)
        self.assertIsInstance(program, Program)
        self.assertEqual(program.inputs, FULL_INPUTS)
        self.assertEqual(program.functions, FULL_FUNCTIONS)
        self.assertEqual(program.body, FULL_BODY)

    def test_spaces(self):
        rows = []
        for row in LATER.split("\n"):
            for sign in ("(", ")", "[", "]", ",", "-", "+"):
                row = row.replace(sign, " " + sign + " ")
            rows.append("     " + row.strip().replace(" ", "   ") + "  ")
        self.assertTrue(read_program(text(*rows)).same(read_program(LATER)))
        close = LATER.replace(" = ", "=").replace(", ", ",").replace(" > ", ">").replace(" + ", "+").replace("    ", "")
        self.assertTrue(read_program(close).same(read_program(LATER)))

    def test_the_answer_does_not_hang_on_what_was_read_before(self):
        first = read_program(LATER)
        with self.assertRaises(BadText):
            read_program(HEAD + "\nif a < 1")
        self.assertTrue(read_program(LATER).same(first))

    def test_inputs(self):
        program = read_program(text("input a from -0 to -5", "input xs list 12 from - 7 to 9999999999", "skip"))
        self.assertEqual(program.inputs, (("a", 0, 0, -5), ("xs", 12, -7, 9999999999)))
        self.assertEqual(program.functions, ())
        self.assertEqual(program.body, (("skip", 3),))

    def test_functions(self):
        program = read_program(text(
            HEAD, "def f()", "skip", "end", "def g ( x )", "return x", "end", "def h(x,y , z,u)", "skip", "skip", "end",
            "skip",
        ))
        self.assertEqual(program.functions, (
            (2, "f", (), (("skip", 3),)),
            (5, "g", ("x",), (("return", 6, X),)),
            (8, "h", ("x", "y", "z", "u"), (("skip", 9), ("skip", 10))),
        ))
        self.assertEqual(program.body, (("skip", 12),))

    def test_each_statement(self):
        item = ("item", "xs", ("var", "i", -1), 2)
        for row, statement in (
            ("let c = 5", ("let", 2, "c", None, None, ("num", 5))),
            ("let c = xs[i - 1] + 2", ("let", 2, "c", None, None, item)),
            ("let c from -3 to 4 = a", ("let", 2, "c", -3, 4, A)),
            ("let c from 0 to - 1 = -5", ("let", 2, "c", 0, -1, ("num", -5))),
            ("list ys 4 = a - 1", ("list", 2, "ys", 4, ("var", "a", -1))),
            ("a = 7", ("set", 2, "a", ("num", 7))),
            ("a = xs[i - 1] + 2", ("set", 2, "a", item)),
            ("a = f", ("set", 2, "a", ("var", "f", 0))),
            ("xs[0] = 7", ("put", 2, "xs", ("num", 0), ("num", 7))),
            ("xs[-2] = a", ("put", 2, "xs", ("num", -2), A)),
            ("xs[i + 1] = xs[i - 1] + 2", ("put", 2, "xs", ("var", "i", 1), item)),
            ("a = f()", ("call", 2, "a", "f", ())),
            ("a = f(-1)", ("call", 2, "a", "f", (("num", -1),))),
            ("a = f (b , a + 1,c - 1)", ("call", 2, "a", "f", (("var", "b", 0), ("var", "a", 1), ("var", "c", -1)))),
            ("a = a(a)", ("call", 2, "a", "a", (A,))),
            ("check a < 1", ("check", 2, SMALL)),
            ("check not (a < 1)", ("check", 2, ("not", SMALL))),
            ("refuse bad", ("refuse", 2, "bad")),
            ("answer xs[i - 1] + 2", ("answer", 2, item)),
            ("answer -3", ("answer", 2, ("num", -3))),
            ("return xs[i - 1] + 2", ("return", 2, item)),
            ("skip", ("skip", 2)),
        ):
            self.assertEqual(read_row(row), statement, row)

    def test_if_and_while(self):
        skip = [("skip", row) for row in range(12)]
        for rows, statement in (
            (["if a < 1", "skip", "end"], ("if", 2, SMALL, (skip[3],), ())),
            (["if a < 1", "skip", "skip", "else", "skip", "end"], ("if", 2, SMALL, (skip[3], skip[4]), (skip[6],))),
            (["if a < 1 or a < 1", "end"], ("if", 2, ("or", (SMALL, SMALL)), (), ())),
            (["if a < 1", "else", "skip", "skip", "end"], ("if", 2, SMALL, (), (skip[4], skip[5]))),
            (["while a < 1 at most 3", "skip", "end"], ("while", 2, SMALL, 3, (skip[3],))),
            (["while (a < 1) at most 12", "end"], ("while", 2, SMALL, 12, ())),
            (
                ["while a < 1 at most 3", "if a < 1", "else", "skip", "end", "skip", "end"],
                ("while", 2, SMALL, 3, (("if", 3, SMALL, (), (skip[5],)), skip[7])),
            ),
            (
                ["if a < 1", "if a < 1", "end", "else", "if a < 1", "skip", "end", "end"],
                ("if", 2, SMALL, (("if", 3, SMALL, (), ()),), (("if", 6, SMALL, (skip[7],), ()),)),
            ),
        ):
            self.assertEqual(read_program(text(HEAD, *rows)).body, (statement,), rows)

    def test_nothing_of_the_rules_for_good_programs_is_looked_at(self):
        body = [
            "b = c", "let a from 9 to 0 = zs[9999999999]", "let a from -9999999999 to 9999999999 = 9999999999",
            "list a 9999999999 = a", "a = nowhere(a, a, a, a, a)", "return 1", "refuse range", "refuse index",
            "refuse turns", "while a < 1 at most 0", "let c = 1", "list c 2 = 1", "end", "while a < 1 at most 9", "end",
            "while a < 1 at most 9999999999", "end", "check " + " and ".join(["a < 1"] * 7), "a[0] = xs",
            "check not not not not not a < 1", "skip", "answer 1",
        ]
        functions = []
        for _ in range(6):
            functions += ["def f(x, x, y, z)", "answer 1", "x = f()", "end"]
        inputs = [HEAD] * 7 + ["input a from 9 to 0", "input xs list 7 from -9999999999 to 9999999999"]
        program = read_program(text(*inputs, *functions, *body * 4))
        self.assertEqual(len(program.inputs), 9)
        self.assertEqual(len(program.functions), 6)
        self.assertEqual(program.functions[5][1:3], ("f", ("x", "x", "y", "z")))
        self.assertEqual(len(program.body), 17 * 4)
        self.assertEqual([s[3] for s in program.body if s[0] == "while"][:3], [0, 9, 9999999999])

    def test_blocks_are_not_counted_to_five(self):
        rows = ["if a < 1"] * 8 + ["skip"] + ["end"] * 8
        statement = read_program(text(HEAD, *rows)).body[0]
        for row in range(2, 10):
            self.assertEqual(statement[:3], ("if", row, SMALL))
            statement = statement[3][0]
        self.assertEqual(statement, ("skip", 10))

    def test_eight_and_nine_blocks_open_at_one_place(self):
        loop = "while a < 1 at most 2"
        for heads in (["if a < 1"] * 9, [loop] * 9, ["if a < 1", loop] * 4 + ["if a < 1"], [loop] * 8 + ["if a < 1"]):
            eight = heads[:8] + ["end"] * 8
            self.assertEqual(len(read_program(text(HEAD, *eight, *eight)).body), 2)
            self.check_wrong(10, HEAD, *heads, "skip", *["end"] * 9)
            inside = ["def f()"] + eight + ["end"]
            self.assertEqual(len(read_program(text(HEAD, *inside, "skip")).functions[0][3]), 1)
            self.check_wrong(11, HEAD, "def f()", *heads, *["end"] * 10, "skip")

    def test_a_block_that_has_ended_is_not_open(self):
        rows = ["if a < 1"] * 7 + ["if a < 1", "else", "skip", "end"] * 3 + ["end"] * 7
        self.assertEqual(len(read_program(text(HEAD, *rows)).body), 1)
        rows = ["if a < 1"] * 7 + ["else"] + ["if a < 1", "end"] + ["end"] * 7
        self.assertEqual(len(read_program(text(HEAD, *rows)).body), 1)

    def test_parentheses_and_nots_of_a_row(self):
        read_row("check " + "(" * 8 + "a < 1" + ")" * 8)
        read_row("check " + "not " * 8 + "a < 1")
        self.check_wrong_row("check " + "(" * 9 + "a < 1" + ")" * 9)
        self.check_wrong_row("check " + "not " * 9 + "a < 1")
        self.check_wrong(2, HEAD, "if " + "not (" * 4 + "not a < 1" + ")" * 4, "end")
        self.check_wrong(2, HEAD, "while " + "(" * 9 + "a < 1" + ")" * 9 + " at most 2", "end")


class FormTest(Case):

    def test_characters_and_words(self):
        for row in ("Skip", "skip\t", "skip!", "skip # why", "let a_b = 1", "a = b * 2", "a = b % 2", "\u00e9 = 1",
            "!"):
            self.check_wrong_row(row)
        self.check_wrong(2, HEAD, "skip\r", "skip")

    def test_input_rows(self):
        for row in (
            "input", "input a", "input a from", "input a from 0", "input a from 0 to", "input a 0 to 9",
            "input a from to 9", "input a from 0 9", "input a to 9", "input a from 0 to 9 9", "input from 0 to 9",
            "input a from 0 to b", "input a from b to 9", "input a from 0 to 9 to 9", "input a from --1 to 9",
            "input a from +1 to 9", "input a from 00 to 9", "input a from 0 to 09", "input a from 0 to 12345678901",
            "input a from 0 to 9 = 1", "input to from 0 to 9", "input abcdefghijklm from 0 to 9", "input 1 from 0 to 9",
            "input a, b from 0 to 9", "input a list from 0 to 9", "input a list 0 from 0 to 9", "input",
            "input a list -1 from 0 to 9", "input a list 01 from 0 to 9", "input a list b from 0 to 9",
            "input list 3 from 0 to 9", "input a list 3", "input a list 3 3 from 0 to 9", "input a 3 from 0 to 9",
            "input a[3] from 0 to 9", "input a list 3 from 0 to", "input a list 12345678901 from 0 to 9",
            "a from 0 to 9", "input a from 0 - 1 to 9", "input a b 0 to 9", "input a at 0 to 9", "input a to 0 to 9",
            "input a list 3 to 0 to 9", "input a list 3 at 0 to 9",
        ):
            self.check_wrong(2, HEAD, row, "skip")
            self.check_wrong(1, row, "skip")

    def test_def_rows(self):
        for row in (
            "def", "def f", "def f(", "def f)", "def f(x", "def f x)", "def (x)", "def f(,)", "def f(x,)", "def f(,x)",
            "def f(x,,y)", "def f(x y)", "def f(1)", "def f(x + 1)", "def f(xs[0])", "def f(if)", "def if(x)",
            "def 1()",
            "def f((x))", "def f()()", "def f() x", "def f(x))", "def f[x]", "def abcdefghijklm()",
            "def f(abcdefghijklm)",
            "def f(-1)", "def f() =", "def f(x) end",
        ):
            self.check_wrong(2, HEAD, row, "skip", "end", "skip")

    def test_rows_that_declare(self):
        for row in (
            "let", "let c", "let c =", "let = 5", "let 5 = c", "let c = ", "let c 5", "let c == 5", "let c = 5 = 5",
            "let c = d = 5", "let c = a < 1", "let c = f()", "let c = f(1)", "let c d = 5", "let c, d = 5",
            "let if = 5",
            "let c[0] = 5", "let c at 0 to 9 = 5", "let c from 0 to 9",
            "let c d 0 to 9 = 5", "let c from 0 = 5", "let c to 9 = 5", "let c from to = 5",
            "let c from 0 to = 5", "let c from 0 to 9 9 = 5", "let c from 0 to d = 5", "let c from d to 9 = 5",
            "let c list 3 = 5", "let c from 0 to 9 = ", "let abcdefghijklm = 5", "let c = 05", "let c = xs[xs[0]]",
            "let c = a + -1", "let c = (5)", "let c: 5", "c let = 5",
            "list", "list c", "list c 3", "list c 3 =", "list c = 5", "list 3 = 5", "list c 0 = 5", "list c 00 = 5",
            "list c -3 = 5", "list c 3 3 = 5", "list c 3 = 5 5", "list c d = 5", "list c 3 from 0 to 9 = 5",
            "list c[3] = 5", "list if 3 = 5", "list c 3 = 5, 5", "list c 12345678901 = 5", "list c 3 = f()",
        ):
            self.check_wrong_row(row)

    def test_size_zero(self):
        self.check_wrong(1, "input xs list 0 from 0 to 9", "skip")
        self.check_wrong_row("list xs 0 = 5")
        self.assertEqual(read_program(text("input xs list 7 from 0 to 9", "skip")).inputs[0][1], 7)
        self.assertEqual(read_row("list xs 7 = 5"), ("list", 2, "xs", 7, ("num", 5)))

    def test_assignments(self):
        for row in (
            "a", "5", "a =", "= 5", "a = = 5", "a == 5", "a = b = 5", "a 5", "a b = 5", "5 = a", "if = 5", "a = if",
            "a + 1 = 5", "a, b = 5", "a = 5, 5", "a = a < 1", "a = 5 5", "a = 5 + 5", "a = a + b", "a = -a", "-a = 5",
            "xs[] = 5", "xs[0 = 5", "xs 0] = 5", "xs[0]] = 5", "xs[[0] = 5", "xs[0][0] = 5", "xs[xs[0]] = 5",
            "xs[0] + 1 = 5", "xs[0, 1] = 5", "xs[0] =", "[0] = 5", "5[0] = 5", "if[0] = 5", "xs[0] 5", "xs[a b] = 5",
            "xs[0] = f()", "xs[0] = f(1)", "xs[0 = 5]", "(a) = 5", "a = (5)", "xs(0) = 5", "xs[(0)] = 5", ":", "a := 5",
            "xs, 0] = 5", "xs 0 0] = 5", "xs[0, = 5", "xs[0 0 = 5", "xs: 0: = 5", "xs] 0 [ = 5",
            "abcdefghijklm = 5", "xs = [5]", "a[", "a]", "[", "]", "=",
        ):
            self.check_wrong_row(row)

    def test_calls(self):
        for row in (
            "f()", "f(1)", "a = f(", "a = f)", "a = f(1", "a = f 1)", "a = f(,)", "a = f(1,)", "a = f(,1)",
            "a = f(1,,2)", "a = f(1 2)", "a = f(b c)", "a = f(xs[0])", "a = f(1, xs[0] + 1)", "a = f(g(1))",
            "a = f((1))", "a = f()()", "a = f() + 1", "a = f()[0]", "a = 5(1)", "a = if(1)", "if = f(1)", "a = (1)",
            "a = f(1))", "a = f(a < 1)", "a = f(b = 1)", "a = f(+ 1)", "a = f(a + b)", "a = f(a + -1)", "a b = f(1)",
            "a = -f(1)", "= f(1)", "a = f[1]()", "a = f(01)", "abcdefghijklm = f()", "a = abcdefghijklm()", "(", ")",
            "5 = f(1)", "at = f(1)", "xs[0] = f()", "a = f, 1)", "a = f, (1)", "a = f[1)", "a = f(1]", "a = f(1,",
            "a = xs[0](1)", "a = f(1) end", "a, b = f(1)",
        ):
            self.check_wrong_row(row)

    def test_statements_with_conditions(self):
        for row in (
            "check", "check a", "check 5", "check a =", "check a = 5", "check a < 1 at most 3", "check (a < 1",
            "check not",
            "check a < 1 and", "check skip", "check < 1", "check a < b < c", "check = a < 1",
            "if", "if a", "if a = 1", "if a < 1 then", "if a < 1 at most 2", "if a < 1 skip", "if a < 1 and or a < 1",
            "while", "while a < 1", "while a < 1 at", "while a < 1 at most", "while at most 3", "while a < 1 most 3",
            "while a < 1 at 3", "while a < 1 at most a", "while a < 1 at most -1", "while a < 1 at most 01",
            "while a < 1 at most 3 3", "while a < 1 at most 3 at most 3", "while a at most 3", "while at most",
            "while (a < 1 at most 3)", "while a < 1 at most 12345678901", "while 3", "at most 3", "while most 3",
            "while a < 1 at at 3", "while a < 1 most at 3", "while a < 1 b c 3", "while a < 1, , 3", "while a < 1 3",
            "while a < 1 at most 1 + 1", "while not at most 3",
        ):
            self.check_wrong_row(row)
            self.check_wrong(2, HEAD, row, "end")

    def test_other_statements(self):
        for row in (
            "refuse", "refuse 5", "refuse a b", "refuse if", "refuse check", "refuse a + 1", "refuse (a)",
            "refuse abcdefghijklm", "refuse xs[0]", "refuse = a", "refuse then",
            "answer", "answer a < 1", "answer 5 5", "answer f()", "answer = 5", "answer a + b", "answer a b",
            "answer (a)",
            "return", "return a < 1", "return 5 5", "return f()", "return = 5", "return a,", "return skip",
            "skip skip", "skip 1", "skip a", "skip = 1", "skip()", "skipa", "row 5", "yes 5", "no 5", "turn 5 1",
            "fault 5 index", "when 5: a < 1", "then", "from 0 to 9", "to", "at", "most", "and", "or", "not a < 1",
            "a < 1", "(a < 1)", "end end", "else if a < 1", "end skip", "else skip", ", ", "- 5",
        ):
            self.check_wrong_row(row)


class PlaceOfRowsTest(Case):

    def test_a_row_without_words(self):
        self.check_wrong(1, "")
        self.check_wrong(1, "   ")
        self.check_wrong(1, "", HEAD, "skip")
        self.check_wrong(2, HEAD, "", "skip")
        self.check_wrong(2, HEAD, "     ", "skip")
        self.check_wrong(3, HEAD, "skip", "")
        self.check_wrong(3, HEAD, "skip", "  ")
        self.check_wrong(4, HEAD, "if a < 1", "skip", "", "end")

    def test_an_input_row_that_is_not_at_the_beginning(self):
        self.check_wrong(3, HEAD, "skip", HEAD)
        self.check_wrong(5, HEAD, "def f()", "skip", "end", HEAD, "skip")
        self.check_wrong(3, HEAD, "def f()", HEAD, "skip", "end", "skip")
        self.check_wrong(3, HEAD, "if a < 1", HEAD, "end")
        self.check_wrong(3, HEAD, "while a < 1 at most 2", HEAD, "end")
        self.check_wrong(5, HEAD, "if a < 1", "else", "skip", HEAD, "end")

    def test_a_def_within_a_block(self):
        self.check_wrong(3, HEAD, "if a < 1", "def f()", "skip", "end", "end")
        self.check_wrong(3, HEAD, "while a < 1 at most 2", "def f()", "skip", "end", "end")
        self.check_wrong(4, HEAD, "if a < 1", "else", "def f()", "skip", "end", "end")
        self.check_wrong(3, HEAD, "def f()", "def g()", "skip", "end", "end", "skip")
        self.check_wrong(4, HEAD, "def f()", "skip", "def g()", "skip", "end", "end", "skip")
        self.check_wrong(4, HEAD, "def f()", "if a < 1", "def g()", "skip", "end", "end", "end", "skip")

    def test_a_def_behind_the_first_statement(self):
        self.check_wrong(3, HEAD, "skip", "def f()", "skip", "end")
        self.check_wrong(4, HEAD, "if a < 1", "end", "def f()", "skip", "end", "skip")

    def test_an_else_or_end_without_its_head(self):
        self.check_wrong(2, HEAD, "end")
        self.check_wrong(2, HEAD, "else")
        self.check_wrong(3, HEAD, "skip", "end")
        self.check_wrong(3, HEAD, "skip", "else", "skip", "end")
        self.check_wrong(4, HEAD, "if a < 1", "end", "end")
        self.check_wrong(4, HEAD, "if a < 1", "end", "else", "skip", "end")
        self.check_wrong(5, HEAD, "def f()", "skip", "end", "end")
        self.check_wrong(5, HEAD, "def f()", "skip", "end", "else", "skip", "end")
        self.check_wrong(4, HEAD, "def f()", "skip", "else", "skip", "end", "skip")

    def test_an_else_or_end_with_more_words(self):
        self.check_wrong(3, HEAD, "if a < 1", "else skip", "skip", "end")
        self.check_wrong(3, HEAD, "if a < 1", "else else", "skip", "end")
        self.check_wrong(3, HEAD, "if a < 1", "else if a < 2", "skip", "end", "end")
        self.check_wrong(3, HEAD, "if a < 1", "end skip", "skip")
        self.check_wrong(3, HEAD, "while a < 1 at most 2", "end end", "skip")
        self.check_wrong(4, HEAD, "def f()", "skip", "end f", "skip")

    def test_a_second_else(self):
        self.check_wrong(6, HEAD, "if a < 1", "skip", "else", "skip", "else", "skip", "end")
        self.check_wrong(4, HEAD, "if a < 1", "else", "else", "skip", "end")

    def test_an_else_in_a_while(self):
        self.check_wrong(4, HEAD, "while a < 1 at most 2", "skip", "else", "skip", "end")
        self.check_wrong(3, HEAD, "while a < 1 at most 2", "else", "skip", "end")
        self.check_wrong(4, HEAD, "if a < 1", "while a < 1 at most 2", "else", "skip", "end", "end")
        read_program(text(HEAD, "if a < 1", "while a < 1 at most 2", "end", "else", "skip", "end"))

    def test_a_row_before_the_first_input_row(self):
        self.check_wrong(1, "skip", HEAD, "skip")
        self.check_wrong(1, "skip")
        self.check_wrong(1, "let a = 1", "answer a")
        self.check_wrong(1, "if 1 < 2", "end")
        self.check_wrong(1, "def f()", "skip", "end", HEAD, "skip")
        self.check_wrong(1, "end")
        self.check_wrong(1, "else")

    def test_the_end_of_a_function_without_statements(self):
        self.check_wrong(3, HEAD, "def f()", "end", "skip")
        self.check_wrong(6, HEAD, "def f()", "skip", "end", "def g(x)", "end", "skip")

    def test_the_end_of_an_else_without_statements(self):
        self.check_wrong(4, HEAD, "if a < 1", "else", "end")
        self.check_wrong(5, HEAD, "if a < 1", "skip", "else", "end", "skip")
        self.check_wrong(5, HEAD, "while a < 1 at most 2", "if a < 1", "else", "end", "end")

    def test_a_text_that_ends_too_early(self):
        self.check_wrong(2, HEAD)
        self.check_wrong(3, HEAD, HEAD)
        self.check_wrong(3, HEAD, "def f()")
        self.check_wrong(4, HEAD, "def f()", "skip")
        self.check_wrong(5, HEAD, "def f()", "skip", "end")
        self.check_wrong(3, HEAD, "if a < 1")
        self.check_wrong(4, HEAD, "if a < 1", "skip")
        self.check_wrong(4, HEAD, "if a < 1", "else")
        self.check_wrong(5, HEAD, "skip", "while a < 1 at most 2", "skip")
        self.check_wrong(5, HEAD, "if a < 1", "if a < 1", "end")

    def test_the_first_of_two_wrong_rows(self):
        self.check_wrong(2, HEAD, "end", "what is this")
        self.check_wrong(2, HEAD, "what is this", "end")
        self.check_wrong(3, HEAD, "if a < 1", "def f()", "")
        self.check_wrong(2, HEAD, "let a = ", "!")
        self.check_wrong(3, HEAD, "skip", "!", "let a =")
        self.check_wrong(3, HEAD, "if a < 1", "skip skip")
        self.check_wrong(1, "", "")
        self.check_wrong(2, HEAD, "refuse check", HEAD)


if __name__ == "__main__":
    unittest.main()
