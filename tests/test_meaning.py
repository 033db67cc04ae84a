import unittest

from samples import LATER, events_of, program_of
from wayorring.checks import check_program
from wayorring.meaning import Run, run_program
from wayorring.reader import read_program

HEAD = "input a from -9 to 9"
ITEMS = "input xs list 3 from -9 to 9"


class Case(unittest.TestCase):

    def check_run(self, rows, inputs, events, outcome):
        program = program_of(*rows)
        check_program(program)
        run = run_program(program, inputs)
        self.assertEqual(run.events, events_of(events), (rows, inputs))
        self.assertEqual(run.outcome, outcome, (rows, inputs))
        self.assertIsNone(run.met)


class StatementsTest(Case):

    def test_the_example(self):
        run = run_program(read_program(LATER), [3, 1, 20, 5])
        self.assertIsInstance(run, Run)
        self.assertEqual(run.outcome, ("answer", 19))
        turns = (
            "r11 y11 t11.1 r12 n12 r15 r4 y4 r5 r11 y11 t11.2 r12 y12 r13 r15 r4 y4 r5"
            " r11 y11 t11.3 r12 n12 r15 r4 y4 r5 r11 n11"
        )
        self.assertEqual(run.events, events_of("r9 r10 " + turns + " r17 y17 r18"))

    def test_a_program_that_comes_to_its_end(self):
        self.check_run([HEAD, "skip"], [0], "r2", ("end",))
        self.check_run([HEAD, "let c = a", "skip", "c = c"], [0], "r2 r3 r4", ("end",))

    def test_answers(self):
        for expression, value in (("a", 4), ("a + 3", 7), ("a - 5", -1), ("-7", -7), ("xs[a - 3] + 1", 7)):
            rows = [HEAD, ITEMS, "answer " + expression]
            self.check_run(rows, [4, 5, 6, 7], "r3", ("answer", value))

    def test_let_and_set(self):
        rows = [HEAD, "let c = a + 1", "let d = c + 5", "c = d - 2", "d = c", "answer d"]
        self.check_run(rows, [4], "r2 r3 r4 r5 r6", ("answer", 8))

    def test_list_and_put(self):
        rows = [HEAD, "list xs 3 = a + 1", "xs[a] = 7", "xs[2] = xs[a] + 1", "let c = xs[0]", "answer xs[c]"]
        self.check_run(rows, [1], "r2 r3 r4 r5 r6", ("answer", 8))
        for at, value in ((0, 3), (1, 9), (2, 3)):
            rows = [HEAD, "list xs 3 = a", "xs[1] = 9", f"answer xs[{at}]"]
            self.check_run(rows, [3], "r2 r3 r4", ("answer", value))

    def test_each_item_of_a_list_begins_with_the_value_and_changes_alone(self):
        rows = [HEAD, "list xs 2 = a", "list ys 2 = a", "xs[0] = 5", "let c = xs[1]", "c = ys[0]", "answer c"]
        self.check_run(rows, [3], "r2 r3 r4 r5 r6 r7", ("answer", 3))

    def test_skip(self):
        self.check_run([HEAD, "skip", "skip"], [1], "r2 r3", ("end",))

    def test_if_with_and_without_else(self):
        rows = [HEAD, "if a < 0", "skip", "end", "skip"]
        self.check_run(rows, [-1], "r2 y2 r3 r5", ("end",))
        self.check_run(rows, [0], "r2 n2 r5", ("end",))
        rows = [HEAD, "if a < 0", "skip", "else", "skip", "skip", "end", "skip"]
        self.check_run(rows, [-1], "r2 y2 r3 r8", ("end",))
        self.check_run(rows, [0], "r2 n2 r5 r6 r8", ("end",))
        rows = [HEAD, "if a < 0", "end", "if a < 0", "else", "skip", "end"]
        self.check_run(rows, [-1], "r2 y2 r4 y4", ("end",))
        self.check_run(rows, [0], "r2 n2 r4 n4 r6", ("end",))

    def test_an_if_within_an_if(self):
        rows = [HEAD, "if a < 5", "if a < 0", "answer 1", "end", "else", "if a < 7", "answer 2", "end", "end",
            "answer 3"]
        self.check_run(rows, [-1], "r2 y2 r3 y3 r4", ("answer", 1))
        self.check_run(rows, [1], "r2 y2 r3 n3 r11", ("answer", 3))
        self.check_run(rows, [6], "r2 n2 r7 y7 r8", ("answer", 2))
        self.check_run(rows, [7], "r2 n2 r7 n7 r11", ("answer", 3))

    def test_while(self):
        rows = [HEAD, "let i = a", "while i < 2 at most 3", "i = i + 1", "end", "answer i"]
        self.check_run(rows, [5], "r2 r3 n3 r6", ("answer", 5))
        self.check_run(rows, [1], "r2 r3 y3 t3.1 r4 r3 n3 r6", ("answer", 2))
        self.check_run(
            rows, [-1], "r2 r3 y3 t3.1 r4 r3 y3 t3.2 r4 r3 y3 t3.3 r4 r3 n3 r6", ("answer", 2))

    def test_check(self):
        rows = [HEAD, "check a < 3", "skip"]
        self.check_run(rows, [2], "r2 y2 r3", ("end",))
        self.check_run(rows, [3], "r2 n2 f2.check", ("fault", 2, "check"))

    def test_refuse(self):
        rows = [HEAD, "if a < 3", "refuse small", "end", "refuse other"]
        self.check_run(rows, [2], "r2 y2 r3 f3.small", ("fault", 3, "small"))
        self.check_run(rows, [3], "r2 n2 r5 f5.other", ("fault", 5, "other"))

    def test_nothing_comes_behind_an_answer_or_a_fault(self):
        for last, event, outcome in (
            ("answer a", "", ("answer", 1)), ("refuse bad", " f4.bad", ("fault", 4, "bad")),
            ("check a < 0", " n4 f4.check", ("fault", 4, "check")),
        ):
            rows = [HEAD, "while a < 5 at most 3", "if a < 5", last, "skip", "end", "skip", "end", "skip"]
            self.check_run(rows, [1], "r2 y2 t2.1 r3 y3 r4" + event, outcome)


class FaultsTest(Case):

    def test_an_index_outside_in_an_expression(self):
        for row in ("let c = xs[a]", "list ys 2 = xs[a]", "answer xs[a]", "let c = xs[a] + 1"):
            for at in (-1, 3, -9, 9):
                self.check_run([HEAD, ITEMS, row, "skip"], [at, 5, 6, 7], "r3 f3.index", ("fault", 3, "index"))
        for at, value in ((0, 5), (2, 7)):
            self.check_run([HEAD, ITEMS, "answer xs[a]"], [at, 5, 6, 7], "r3", ("answer", value))
        for row in ("c = xs[a]", "c = xs[a + 1] - 1", "c = xs[-1]", "c = xs[3]"):
            rows = [HEAD, ITEMS, "let c = 0", row, "skip"]
            self.check_run(rows, [3, 5, 6, 7], "r3 r4 f4.index", ("fault", 4, "index"))

    def test_an_index_outside_before_the_sign_and_behind_it(self):
        rows = [HEAD, "list ys 3 = 0", "ys[a] = 1", "skip"]
        for at in (-1, 3):
            self.check_run(rows, [at], "r2 r3 f3.index", ("fault", 3, "index"))
        for at in (0, 2):
            self.check_run(rows, [at], "r2 r3 r4", ("end",))
        rows = [HEAD, "list ys 3 = 0", "ys[0] = ys[a]", "skip"]
        for at in (-1, 3):
            self.check_run(rows, [at], "r2 r3 f3.index", ("fault", 3, "index"))
        self.check_run(rows, [2], "r2 r3 r4", ("end",))

    def test_an_index_outside_in_a_condition_has_no_yes_or_no(self):
        for head, ends in (("if xs[a] == 5", ["end"]), ("while xs[a] == 4 at most 2", ["end"]),
            ("check xs[a] >= 5", [])):
            rows = [HEAD, ITEMS, head, *ends, "skip"]
            for at in (-1, 3):
                self.check_run(rows, [at, 5, 6, 7], "r3 f3.index", ("fault", 3, "index"))
        for condition in ("1 < xs[a]", "xs[0] < xs[a]", "xs[a] < xs[0]", "not xs[a] == 1", "a == 3 and xs[a] == 0"):
            rows = [HEAD, ITEMS, "if " + condition, "end"]
            self.check_run(rows, [3, 5, 6, 7], "r3 f3.index", ("fault", 3, "index"))

    def test_an_index_outside_in_a_condition_only_where_it_is_needed(self):
        for condition, answer in (
            ("a < 3 and xs[a] == 7", "n"), ("a >= 3 or xs[a] == 7", "y"), ("not (a < 3 and xs[a] == 7)", "y"),
            ("a < 3 and xs[a] == 7 or a == 3", "y"), ("(a == 3 or xs[a] == 1) and a == 3", "y"),
        ):
            rows = [HEAD, ITEMS, "if " + condition, "end"]
            self.check_run(rows, [3, 5, 6, 7], f"r3 {answer}3", ("end",))

    def test_an_index_outside_in_a_later_turn(self):
        rows = [ITEMS, "let i = 0", "while xs[i] < 9 at most 5", "i = i + 1", "end"]
        events = "r2 r3 y3 t3.1 r4 r3 y3 t3.2 r4 r3 y3 t3.3 r4 r3 f3.index"
        self.check_run(rows, [1, 2, 3], events, ("fault", 3, "index"))
        self.check_run(rows, [1, 9, 3], "r2 r3 y3 t3.1 r4 r3 n3", ("end",))

    def test_an_argument_that_is_an_index_outside_in_the_function(self):
        rows = [HEAD, "def f(i)", "list ys 3 = 4", "return ys[i]", "end", "let c = 0", "c = f(a + 1)", "answer c"]
        for at in (-2, 2):
            self.check_run(rows, [at], "r6 r7 r3 r4 f4.index", ("fault", 4, "index"))
        for at in (-1, 1):
            self.check_run(rows, [at], "r6 r7 r3 r4 r8", ("answer", 4))

    def test_a_range_of_a_let(self):
        rows = [HEAD, "let c from -2 to 3 = a", "answer c"]
        for value in (-2, 0, 3):
            self.check_run(rows, [value], "r2 r3", ("answer", value))
        for value in (-3, 4):
            self.check_run(rows, [value], "r2 f2.range", ("fault", 2, "range"))

    def test_a_range_of_an_assignment(self):
        rows = [HEAD, "let c from -2 to 3 = 0", "c = a + 1", "answer c"]
        for value in (-2, 3):
            self.check_run(rows, [value - 1], "r2 r3 r4", ("answer", value))
        for value in (-3, 4):
            self.check_run(rows, [value - 1], "r2 r3 f3.range", ("fault", 3, "range"))

    def test_a_range_of_a_call(self):
        rows = [HEAD, "def f(x)", "return x + 1", "end", "let c from -2 to 3 = 0", "c = f(a)", "answer c"]
        for value in (-2, 3):
            self.check_run(rows, [value - 1], "r5 r6 r3 r7", ("answer", value))
        for value in (-3, 4):
            self.check_run(rows, [value - 1], "r5 r6 r3 f6.range", ("fault", 6, "range"))

    def test_a_range_within_a_function(self):
        rows = [HEAD, "def f(x)", "let c from 0 to 1 = 0", "c = x", "return c", "end", "let c = 0", "c = f(a)",
            "answer c"]
        self.check_run(rows, [1], "r7 r8 r3 r4 r5 r9", ("answer", 1))
        self.check_run(rows, [2], "r7 r8 r3 r4 f4.range", ("fault", 4, "range"))

    def test_names_without_a_range_and_parameters_keep_none(self):
        rows = [
            HEAD, "def f(c)", "c = c + 999999", "return c", "end", "let c from 0 to 9 = 1", "let d = 0", "d = f(5)",
            "d = d + 5", "answer d",
        ]
        self.check_run(rows, [0], "r6 r7 r8 r3 r4 r9 r10", ("answer", 1000009))

    def test_items_of_lists_have_no_range(self):
        rows = [HEAD, "let c from 0 to 1 = 0", "list ys 2 = 0", "ys[0] = 99", "answer ys[0]"]
        self.check_run(rows, [0], "r2 r3 r4 r5", ("answer", 99))

    def test_turns(self):
        rows = [HEAD, "let i = a", "while i < 9 at most 2", "i = i + 1", "end", "skip"]
        self.check_run(rows, [7], "r2 r3 y3 t3.1 r4 r3 y3 t3.2 r4 r3 n3 r6", ("end",))
        events = "r2 r3 y3 t3.1 r4 r3 y3 t3.2 r4 r3 y3 f3.turns"
        self.check_run(rows, [6], events, ("fault", 3, "turns"))
        self.check_run([HEAD, "while 1 < 2 at most 1", "end"], [0], "r2 y2 t2.1 r2 y2 f2.turns", ("fault", 2, "turns"))
        eight = "".join([f"r2 y2 t2.{k} " for k in range(1, 9)])
        self.check_run([HEAD, "while 1 < 2 at most 8", "end"], [0], eight + "r2 y2 f2.turns", ("fault", 2, "turns"))

    def test_turns_are_counted_anew_in_a_while_within_a_while(self):
        rows = [
            HEAD, "let i = 0", "let j = 0", "while i < a at most 3", "j = 0", "while j < 2 at most 2", "j = j + 1",
            "end", "i = i + 1", "end", "answer i",
        ]
        inner = "r6 y6 t6.1 r7 r6 y6 t6.2 r7 r6 n6 "
        turns = "".join([f"r4 y4 t4.{k} r5 {inner}r9 " for k in (1, 2, 3)])
        self.check_run(rows, [3], "r2 r3 " + turns + "r4 n4 r11", ("answer", 3))
        self.check_run(rows, [4], "r2 r3 " + turns + "r4 y4 f4.turns", ("fault", 4, "turns"))

    def test_turns_are_counted_anew_in_a_function_called_several_times(self):
        rows = [
            HEAD, "def f(x)", "while x < 2 at most 2", "x = x + 1", "end", "return x", "end",
            "let c = 0", "c = f(0)", "c = f(c - 1)", "c = f(a)",
        ]
        two = "r3 y3 t3.1 r4 r3 y3 t3.2 r4 r3 "
        one = "r3 y3 t3.1 r4 r3 n3 r6 "
        self.check_run(rows, [0], "r8 r9 " + two + "n3 r6 r10 " + one + "r11 " + two + "n3 r6", ("end",))
        events = "r8 r9 " + two + "n3 r6 r10 " + one + "r11 " + two + "y3 f3.turns"
        self.check_run(rows, [-1], events, ("fault", 3, "turns"))

    def test_turns_are_counted_anew_after_a_visit_that_was_left_by_return(self):
        rows = [
            HEAD, "def f(x)", "while x < 5 at most 2", "x = x + 1", "if x == 2", "return x", "end", "end", "return 9",
            "end", "let c = 0", "c = f(0)", "c = f(3)", "answer c",
        ]
        first = "r3 y3 t3.1 r4 r5 n5 r3 y3 t3.2 r4 r5 y5 r6 "
        second = "r3 y3 t3.1 r4 r5 n5 r3 y3 t3.2 r4 r5 n5 r3 n3 r9 "
        self.check_run(rows, [0], "r11 r12 " + first + "r13 " + second + "r14", ("answer", 9))


class FunctionsTest(Case):

    def test_no_one_and_three_parameters(self):
        rows = [
            HEAD, "def none()", "return 5", "end", "def one(x)", "return x - 1", "end", "def three(x, y, z)",
            "list ys 3 = x", "ys[1] = y", "ys[2] = z", "return ys[1]", "end",
            "let c = 0", "c = none()", "c = one(c)", "c = three(a, c + 1, -3)", "answer c",
        ]
        self.check_run(rows, [2], "r14 r15 r3 r16 r6 r17 r9 r10 r11 r12 r18", ("answer", 5))

    def test_arguments_go_to_the_parameters_in_order(self):
        for at, value in (("x", 7), ("y", 8), ("z", 9)):
            rows = [HEAD, "def f(x, y, z)", f"return {at}", "end", "let c = 0", "c = f(a, a + 1, 9)", "answer c"]
            self.check_run(rows, [7], "r5 r6 r3 r7", ("answer", value))

    def test_return_in_a_block_leaves_the_function(self):
        rows = [
            HEAD, "def f(x)", "while x < 9 at most 8", "if x > 1", "return x", "end", "x = x + 1", "end", "skip", "end",
            "let c = 0", "c = f(a)", "answer c",
        ]
        self.check_run(rows, [1], "r11 r12 r3 y3 t3.1 r4 n4 r7 r3 y3 t3.2 r4 y4 r5 r13", ("answer", 2))
        self.check_run(rows, [9], "r11 r12 r3 n3 r9 r13", ("answer", 0))

    def test_no_return_gives_0(self):
        rows = [HEAD, "def f(x)", "x = 5", "end", "let c = 7", "c = f(c)", "answer c"]
        self.check_run(rows, [1], "r5 r6 r3 r7", ("answer", 0))
        rows = [HEAD, "def f(x)", "if x < 0", "return 4", "end", "end", "let c from 1 to 9 = 7", "c = f(a)", "answer c"]
        self.check_run(rows, [-1], "r7 r8 r3 y3 r4 r9", ("answer", 4))
        self.check_run(rows, [0], "r7 r8 r3 n3 f8.range", ("fault", 8, "range"))

    def test_functions_that_call_functions(self):
        rows = [
            HEAD, "def one(x)", "return x + 1", "end", "def two(x)", "let y = 0", "y = one(x)", "y = one(y)",
            "return y", "end", "def four(x)", "x = two(x)", "x = two(x)", "return x", "end",
            "let c = 0", "c = four(a)", "answer c",
        ]
        two = "r6 r7 r3 r8 r3 r9 "
        self.check_run(rows, [5], "r16 r17 r12 " + two + "r13 " + two + "r14 r18", ("answer", 9))

    def test_a_fault_in_a_function_within_a_function(self):
        rows = [
            HEAD, "def one(x)", "check x < 3", "return x", "end", "def two(x)", "x = one(x + 1)", "skip", "end",
            "let c = 0", "c = two(a)", "skip",
        ]
        self.check_run(rows, [1], "r10 r11 r7 r3 y3 r4 r8 r12", ("end",))
        self.check_run(rows, [2], "r10 r11 r7 r3 n3 f3.check", ("fault", 3, "check"))

    def test_variables_of_a_function_with_names_of_the_program(self):
        rows = [
            HEAD, "def f(a)", "let c = 100", "list d 2 = a", "a = a + 1", "d[0] = c", "c = 50", "return a", "end",
            "let c = 1", "list d 2 = 2", "c = f(c + 5)", "let e = d[0]", "answer c",
        ]
        self.check_run(rows, [3], "r10 r11 r12 r3 r4 r5 r6 r7 r8 r13 r14", ("answer", 7))
        self.check_run(rows[:-1] + ["answer e"], [3], "r10 r11 r12 r3 r4 r5 r6 r7 r8 r13 r14", ("answer", 2))
        self.check_run(rows[:-1] + ["answer a"], [3], "r10 r11 r12 r3 r4 r5 r6 r7 r8 r13 r14", ("answer", 3))

    def test_variables_of_a_function_are_new_in_each_visit(self):
        rows = [
            HEAD, "def f(x)", "list ys 2 = 0", "let n = ys[0]", "ys[0] = x", "n = n + 1", "return n", "end",
            "let c = 0", "c = f(5)", "c = f(5)", "answer c",
        ]
        body = "r3 r4 r5 r6 r7 "
        self.check_run(rows, [0], "r9 r10 " + body + "r11 " + body + "r12", ("answer", 1))

    def test_a_function_with_the_name_of_a_variable(self):
        rows = [HEAD, "def c(x)", "return x + 1", "end", "let c = 4", "c = c(c)", "answer c"]
        self.check_run(rows, [0], "r5 r6 r3 r7", ("answer", 5))

    def test_a_call_changes_nothing_of_the_caller_but_the_named_variable(self):
        rows = [HEAD, "def f(x)", "x = 50", "return x", "end", "let c = 1", "let d = 2", "d = f(c)", "answer c"]
        self.check_run(rows, [0], "r6 r7 r8 r3 r4 r9", ("answer", 1))

    def test_an_answer_in_a_block(self):
        rows = [HEAD, "while a < 5 at most 3", "if a < 3", "answer a + 1", "else", "skip", "end", "end", "skip"]
        self.check_run(rows, [2], "r2 y2 t2.1 r3 y3 r4", ("answer", 3))
        self.check_run(rows, [5], "r2 n2 r9", ("end",))


if __name__ == "__main__":
    unittest.main()
