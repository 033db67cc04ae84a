import unittest

from wayorring.program import Program
from wayorring.reader import read_program
from wayorring.writer import write_program, write_statement

A = ("var", "a", 0)
SMALL = ("cmp", "<", A, ("num", 1))
ITEM = ("item", "xs", ("var", "i", -1), 2)

STATEMENTS = (
    (("let", 2, "c", None, None, ("num", 5)), "let c = 5"),
    (("let", 2, "c", None, None, ("num", -5)), "let c = -5"),
    (("let", 2, "c", 0, 9, A), "let c from 0 to 9 = a"),
    (("let", 2, "c", 0, 0, A), "let c from 0 to 0 = a"),
    (("let", 2, "c", -9, -3, ITEM), "let c from -9 to -3 = xs[i - 1] + 2"),
    (("list", 2, "ys", 4, ("var", "a", -1)), "list ys 4 = a - 1"),
    (("set", 2, "a", ("var", "a", 0)), "a = a"),
    (("set", 2, "a", ("var", "a", 3)), "a = a + 3"),
    (("put", 2, "xs", ("num", 0), ("num", 7)), "xs[0] = 7"),
    (("put", 2, "xs", ("num", -2), ITEM), "xs[-2] = xs[i - 1] + 2"),
    (("put", 2, "xs", ("var", "i", 3), ("num", -7)), "xs[i + 3] = -7"),
    (("call", 2, "a", "f", ()), "a = f()"),
    (("call", 2, "a", "f", (("num", -1),)), "a = f(-1)"),
    (("call", 2, "a", "f", (A, ("var", "b", 1), ("var", "c", -1))), "a = f(a, b + 1, c - 1)"),
    (("if", 2, SMALL, (("skip", 3),), (("skip", 5),)), "if a < 1"),
    (("if", 2, ("and", (("or", (SMALL, SMALL)), SMALL)), (), ()), "if (a < 1 or a < 1) and a < 1"),
    (("while", 2, SMALL, 3, (("skip", 3),)), "while a < 1 at most 3"),
    (("while", 2, ("not", ("and", (SMALL, SMALL))), 8, ()), "while not (a < 1 and a < 1) at most 8"),
    (("check", 2, ("cmp", ">=", ITEM, ("num", -4))), "check xs[i - 1] + 2 >= -4"),
    (("check", 2, ("not", SMALL)), "check not a < 1"),
    (("refuse", 2, "bad"), "refuse bad"),
    (("answer", 2, ITEM), "answer xs[i - 1] + 2"),
    (("return", 2, ("num", -3)), "return -3"),
    (("skip", 2), "skip"),
)

FULL = """\
input a from -5 to -0
input b from 0 to 99
input xs list 3 from -1000000000 to 1000000000
def none()
  skip
end
def one(x)
  if x < -1
    return x - 1
  else
    while x < 1 at most 2
      x = none()
    end
  end
end
def two(x, top)
  if x < top
  else
    skip
  end
end
let i = 0
list ys 6 = a - 3
let best from -3 to 2000000 = b
while i < 3 at most 3
  if xs[i] > best and not xs[i] == a
    best = xs[i + 1] - 2
    if a < b or not (a < b or b < a) and (a < b or b < a)
    end
  else
    while not not a < b at most 1
    end
    ys[i - 1] = -3
  end
  i = two(i, -3)
end
check (best >= a or best >= b) or a != b and b != a
refuse enough
answer best - 1"""


class WriteStatementTest(unittest.TestCase):

    def test_each_kind(self):
        for statement, row in STATEMENTS:
            self.assertEqual(write_statement(statement), row)

    def test_what_is_written_is_read_back(self):
        for statement, row in STATEMENTS:
            if statement[0] in ("if", "while"):
                continue
            program = read_program("input a from 0 to 9\n" + row)
            self.assertEqual(program.body, (statement,), row)


class WriteProgramTest(unittest.TestCase):

    def test_a_whole_program(self):
        written = FULL.replace("to -0", "to 0")
        self.assertEqual(write_program(read_program(FULL)), written)
        self.assertTrue(read_program(written).same(read_program(FULL)))

    def test_a_program_in_another_form(self):
        rows = []
        for row in FULL.split("\n"):
            for sign in ("(", ")", "[", "]", ",", "-", "+"):
                row = row.replace(sign, "  " + sign + "  ")
            rows.append("   " + row.strip())
        text = "\n".join(rows)
        self.assertEqual(write_program(read_program(text)), FULL.replace("to -0", "to 0"))

    def test_parentheses_and_plus_zero(self):
        text = "input a from 0 to 9\ncheck ((a + 0 < 1)) or ((a < 1) and (not (a < 1)))\nanswer a - 0"
        written = "input a from 0 to 9\ncheck a < 1 or a < 1 and not a < 1\nanswer a"
        self.assertEqual(write_program(read_program(text)), written)

    def test_indentation(self):
        heads = ["if a < 1", "while a < 1 at most 2"] * 4
        rows = ["input a from 0 to 9"] + ["  " * deep + head for deep, head in enumerate(heads)]
        rows += ["  " * 8 + "skip"] + ["  " * deep + "end" for deep in reversed(range(8))]
        text = "\n".join(rows)
        self.assertEqual(write_program(read_program(text.replace("  ", ""))), text)

    def test_else_stands_as_far_left_as_its_head(self):
        text = "input a from 0 to 9\ndef f()\n  if a < 1\n  else\n    skip\n  end\nend\nskip"
        self.assertEqual(write_program(read_program(text.replace("  ", ""))), text)

    def test_there_is_no_newline_behind_the_last_row(self):
        self.assertEqual(write_program(read_program("input a from 0 to 9\nskip")), "input a from 0 to 9\nskip")

    def test_a_program_with_equal_attributes(self):
        program = read_program(FULL)
        other = Program(program.inputs, program.functions, program.body)
        self.assertEqual(write_program(other), write_program(program))


if __name__ == "__main__":
    unittest.main()
