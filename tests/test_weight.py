import unittest

from wayorring.checks import check_program, weight_of
from wayorring.errors import BadProgram, TooLong
from wayorring.reader import read_program
from wayorring.writer import write_program

HEAD = "input a from 0 to 9"


def program_of(*rows):
    return read_program("\n".join((HEAD,) + rows))


def weight(*rows):
    program = program_of(*rows)
    return weight_of(program.body, program)


class WeightTest(unittest.TestCase):

    def test_each_statement_without_blocks_weighs_one(self):
        for row in (
            "let c = 1", "let c from 0 to 9 = 1", "list c 6 = 1", "check a < 1 and a < 1", "refuse bad", "answer 1",
            "skip",
        ):
            self.assertEqual(weight(row), 1, row)
        self.assertEqual(weight("let c = 1", "c = 2", "list ys 3 = c", "ys[0] = 1", "answer 1"), 5)

    def test_a_block_weighs_the_sum_of_its_statements(self):
        program = program_of("skip", "skip", "skip")
        self.assertEqual(weight_of((), program), 0)
        self.assertEqual(weight_of(program.body[:1], program), 1)
        self.assertEqual(weight_of(program.body, program), 3)

    def test_an_if_weighs_the_greater_block(self):
        self.assertEqual(weight("if a < 1", "end"), 1)
        self.assertEqual(weight("if a < 1", "skip", "skip", "end"), 3)
        self.assertEqual(weight("if a < 1", "skip", "skip", "else", "skip", "end"), 3)
        self.assertEqual(weight("if a < 1", "skip", "else", "skip", "skip", "skip", "end"), 4)
        self.assertEqual(weight("if a < 1", "else", "skip", "end"), 2)
        self.assertEqual(weight("if a < 1", "if a < 1", "skip", "end", "else", "skip", "end"), 3)

    def test_a_while(self):
        self.assertEqual(weight("while a < 1 at most 3", "end"), 4)
        self.assertEqual(weight("while a < 1 at most 3", "skip", "end"), 7)
        self.assertEqual(weight("while a < 1 at most 1", "skip", "skip", "end"), 4)
        self.assertEqual(weight("while a < 1 at most 8", "if a < 1", "skip", "end", "skip", "end"), 33)

    def test_whiles_within_whiles(self):
        self.assertEqual(weight("while a < 1 at most 3", "while a < 1 at most 2", "skip", "end", "end"), 19)
        self.assertEqual(
            weight("while a < 1 at most 2", "while a < 1 at most 2", "while a < 1 at most 2", "skip", "end", "end",
                "end"),
            3 + 2 * (3 + 2 * (3 + 2 * 1)),
        )

    def test_calls(self):
        rows = (
            "def f(x)", "skip", "return x", "end",
            "def g()", "let y = 1", "y = f(y)", "y = f(y)", "return y", "end",
            "def h(x)", "while x < 1 at most 2", "x = g()", "end", "end",
            "let c = 1", "c = f(c)", "c = g()", "c = h(c)",
        )
        program = program_of(*rows)
        self.assertEqual(weight_of(program.functions[0][3], program), 2)
        self.assertEqual(weight_of(program.functions[1][3], program), 2 + 2 * 3)
        self.assertEqual(weight_of(program.functions[2][3], program), 3 + 2 * 9)
        self.assertEqual(weight_of(program.body, program), 1 + 3 + 9 + 22)
        self.assertEqual(weight_of(program.body[3:], program), 22)

    def test_the_program_is_left_as_it_was(self):
        program = program_of("def f()", "skip", "end", "let c = 1", "c = f()")
        before = write_program(program)
        self.assertEqual([weight_of(program.body, program) for _ in range(3)], [3, 3, 3])
        self.assertEqual(write_program(program), before)


class TooLongTest(unittest.TestCase):
    LOOPS = ("while a < 1 at most 8",) * 3

    def loops(self, *rows):
        return self.LOOPS + rows + ("end",) * 3

    def test_weight_1000_and_1001(self):
        # The nested whiles weigh 9 + 8 * 9 + 8 * 8 * 14 = 977.
        nested = ("while a < 1 at most 8",) * 2 + ("skip",) * 14 + ("end",) * 2
        good = nested + ("skip",) * 23
        self.assertEqual(weight(*good), 1000)
        self.assertIsNone(check_program(program_of(*good)))
        self.assertEqual(weight(*good, "skip"), 1001)
        with self.assertRaises(TooLong):
            check_program(program_of(*good, "skip"))

    def test_weight_1000_and_1001_by_a_call(self):
        function = ("def f(x)", "while x < 1 at most 8", "while x < 1 at most 8") + ("skip",) * 14 + ("end",) * 3
        good = function + ("let c = 1", "c = f(c)") + ("skip",) * 21
        self.assertEqual(weight(*good), 1000)
        self.assertIsNone(check_program(program_of(*good)))
        with self.assertRaises(TooLong):
            check_program(program_of(*good, "skip"))
        function = function[:-1] + ("skip", "end")
        with self.assertRaises(TooLong):
            check_program(program_of(*function, "let c = 1", "c = f(c)", *("skip",) * 21))

    def test_a_great_weight(self):
        rows = ("while a < 1 at most 8",) * 5 + ("skip", "skip") + ("end",) * 5
        self.assertEqual(weight(*rows), 9 * (1 + 8 + 64 + 512 + 4096) + 8 ** 5 * 2)
        with self.assertRaises(TooLong):
            check_program(program_of(*rows))

    def test_weight_of_a_program_that_is_too_long(self):
        self.assertEqual(weight(*self.loops("skip")), 9 + 8 * (9 + 8 * (9 + 8)))
        with self.assertRaises(TooLong):
            check_program(program_of(*self.loops("skip")))

    def test_a_function_that_is_never_called_may_weigh_more(self):
        function = ("def f(a)",) + self.loops("skip") + ("end",)
        program = program_of(*function, "skip")
        self.assertEqual(weight_of(program.functions[0][3], program), 9 + 8 * (9 + 8 * (9 + 8)))
        self.assertEqual(weight_of(program.body, program), 1)
        self.assertIsNone(check_program(program))
        other = ("def g(x)", "x = f(x)", "return x", "end")
        self.assertIsNone(check_program(program_of(*function, *other, "skip")))
        with self.assertRaises(TooLong):
            check_program(program_of(*function, *other, "let c = 1", "c = g(c)"))

    def test_the_greater_block_is_too_long(self):
        with self.assertRaises(TooLong):
            check_program(program_of("if a < 1", "skip", "else", *self.loops("skip"), "end"))

    def test_bad_program_comes_ahead_of_too_long(self):
        with self.assertRaises(BadProgram) as caught:
            check_program(program_of(*self.loops("skip"), "return 1"))
        self.assertEqual(caught.exception.row, 9)


if __name__ == "__main__":
    unittest.main()
