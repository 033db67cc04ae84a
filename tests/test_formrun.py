import unittest

from samples import LATER, SMALL, all_inputs, events_of, program_of, random_programs, some_inputs
from wayorring.chains import keeps
from wayorring.checks import check_program
from wayorring.formrun import FormRun
from wayorring.meaning import run_program
from wayorring.reader import read_program
from wayorring.ways import compare_ways, form_value, index_ways, range_ways
from wayorring.writer import write_program

HEAD = "input a from -9 to 9"
ITEMS = "input xs list 3 from -9 to 9"
A = (1, 0)
FIRST, SECOND, THIRD = (2, 0), (3, 0), (4, 0)


def kept_way(ways, inputs):
    """The number of the one way that the inputs keep."""
    kept = [number for number, (result, differences) in enumerate(ways) if keeps(differences, inputs)]
    assert len(kept) == 1, (ways, inputs)
    return kept[0]


def value_form(form, inputs):
    """A form, or a list of forms, with the values of the inputs in place of the unknowns."""
    if isinstance(form, list):
        return [(0, form_value(each, inputs)) for each in form]
    return (0, form_value(form, inputs))


def outcome_with_values(outcome, inputs):
    return ("answer", form_value(outcome[1], inputs)) if outcome[0] == "answer" else outcome


def go(run, takes=()):
    """Goes on to the end of the run by these ways; the questions that were asked."""
    questions = []
    takes = list(takes)
    while True:
        word = run.advance()
        if word == "over":
            assert not takes
            return questions
        if word == "ask":
            questions.append(run.question)
            run.take(takes.pop(0))


class Case(unittest.TestCase):

    def good(self, *rows):
        program = program_of(*rows)
        check_program(program)
        return program

    def check_words(self, program, inputs):
        """Goes through a run with known inputs; the variables at the beginning of each row."""
        told = run_program(program, inputs)
        run = FormRun(program, inputs=inputs)
        shown = []
        for many in range(1, len(told.events) + 1):
            self.assertEqual(run.advance(), "event")
            self.assertEqual(run.events, told.events[:many])
            self.assertIsNone(run.question)
            if run.events[-1][0] == "row":
                shown.append((run.events[-1][1], dict(run.variables)))
        for _ in range(3):
            self.assertEqual(run.advance(), "over")
            self.assertEqual(run.events, told.events)
        expected = ("answer", (0, told.outcome[1])) if told.outcome[0] == "answer" else told.outcome
        self.assertEqual(run.outcome, expected)
        return shown


class WithInputsTest(Case):

    def test_at_first(self):
        for run in (FormRun(read_program(LATER)), FormRun(read_program(LATER), inputs=[3, 1, 20, 5])):
            self.assertEqual(run.events, [])
            self.assertIsNone(run.question)
            for name in ("outcome", "variables"):
                self.assertIn(name, vars(run))

    def test_the_example_with_a_list_and_a_tuple(self):
        program = read_program(LATER)
        self.assertEqual(self.check_words(program, [3, 1, 20, 5]), self.check_words(program, (3, 1, 20, 5)))

    def test_each_kind_of_end(self):
        rows = (
            HEAD, "let c from -1 to 5 = a", "list ys 2 = c", "while c == 4 at most 1", "end", "ys[c] = 7",
            "if c == 1", "answer ys[1] + 2", "end", "check c > 9",
        )
        program = self.good(*rows)
        for value, outcome in (
            (-2, ("fault", 2, "range")), (-1, ("fault", 6, "index")), (0, ("fault", 10, "check")), (1, ("answer", 9)),
            (2, ("fault", 6, "index")), (4, ("fault", 4, "turns")), (6, ("fault", 2, "range")),
        ):
            self.check_words(program, [value])
            self.assertEqual(run_program(program, [value]).outcome, outcome)

    def test_the_value_of_an_answer_is_a_form(self):
        run = FormRun(self.good(HEAD, "answer a + 4"), inputs=[3])
        go(run)
        self.assertEqual(run.outcome, ("answer", (0, 7)))

    def test_small_and_random_programs(self):
        for text in SMALL:
            program = read_program(text)
            check_program(program)
            for inputs in all_inputs(program):
                self.check_words(program, inputs)
        for program in random_programs(120, 2000):
            for inputs in some_inputs(program, 5, 4):
                self.check_words(program, inputs)

    def test_variables_at_the_beginning_of_each_row(self):
        rows = (
            HEAD, ITEMS, "let c = a + 1", "list ys 2 = c", "ys[1] = xs[0]", "if a < 9", "c = xs[2] - 1", "end",
            "answer c",
        )
        a, xs = (0, 2), [(0, 5), (0, 6), (0, 7)]
        first = {"a": a, "xs": xs}
        second = {**first, "c": (0, 3)}
        third = {**second, "ys": [(0, 3), (0, 3)]}
        fourth = {**second, "ys": [(0, 3), (0, 5)]}
        self.assertEqual(
            self.check_words(self.good(*rows), [2, 5, 6, 7]),
            [(3, first), (4, second), (5, third), (6, fourth), (7, fourth), (9, {**fourth, "c": (0, 6)})],
        )

    def test_variables_of_functions(self):
        rows = (
            HEAD, "def one(x)", "let c = x + 1", "x = c", "return x + 1", "end", "def two(c, d)", "list ys 1 = d",
            "c = one(c)", "return c", "end", "let c = 7", "c = two(a, 5)", "skip",
        )
        inner = {"x": (0, 2), "c": (0, 3)}
        outer = {"c": (0, 2), "d": (0, 5), "ys": [(0, 5)]}
        self.assertEqual(
            self.check_words(self.good(*rows), [2]),
            [
                (12, {"a": (0, 2)}), (13, {"a": (0, 2), "c": (0, 7)}), (8, {"c": (0, 2), "d": (0, 5)}), (9, outer),
                (3, {"x": (0, 2)}), (4, inner), (5, {**inner, "x": (0, 3)}), (10, {**outer, "c": (0, 4)}),
                (14, {"a": (0, 2), "c": (0, 4)}),
            ],
        )

    def test_a_while_shows_its_variables_each_time(self):
        rows = (HEAD, "let i = 0", "while i < 2 at most 3", "i = i + 1", "end")
        shown = self.check_words(self.good(*rows), [2])
        self.assertEqual([held["i"][1] for row, held in shown if row == 3], [0, 1, 2])
        self.assertEqual([held["i"][1] for row, held in shown if row == 4], [0, 1])

    def test_the_inputs_are_left_as_they_were(self):
        inputs = [3, 1, 20, 5]
        go(FormRun(read_program(LATER), inputs=inputs))
        self.assertEqual(inputs, [3, 1, 20, 5])
        rows = ("input xs list 2 from 0 to 9", "list ys 2 = xs[0]", "ys[1] = 5", "ys[0] = ys[1]")
        inputs = [4, 6]
        go(FormRun(program_of(*rows), inputs=inputs))
        self.assertEqual(inputs, [4, 6])


class QuestionsTest(Case):

    def check_questions(self, rows, takes, questions, events, outcome):
        run = FormRun(self.good(*rows))
        self.assertEqual(go(run, takes), questions)
        self.assertEqual(run.events, events_of(events))
        self.assertEqual(run.outcome, outcome)

    def test_an_index_in_an_expression(self):
        ways = index_ways(A, 3)
        self.assertEqual(len(ways), 5)
        for head, more in (("let c = xs[a]", "r4"), ("list ys 2 = xs[a]", "r4"), ("answer xs[a]", "")):
            rows = [HEAD, ITEMS, head, "skip"]
            for take in (0, 4):
                self.check_questions(rows, [take], [ways], "r3 f3.index", ("fault", 3, "index"))
            for take in (1, 2, 3):
                outcome = ("answer", (take + 1, 0)) if head == "answer xs[a]" else ("end",)
                self.check_questions(rows, [take], [ways], "r3 " + more, outcome)
        rows = [HEAD, ITEMS, "answer xs[a + 2] - 5"]
        self.check_questions(rows, [3], [index_ways((1, 2), 3)], "r3", ("answer", (4, -5)))

    def test_left_index_then_right_index_then_the_comparison(self):
        rows = [HEAD, ITEMS, "input b from 0 to 9", "if xs[a] + 1 < xs[b] - 1", "skip", "end"]
        left, right = index_ways(A, 3), index_ways((5, 0), 3)
        compared = compare_ways("<", (3, 1), (4, -1))
        self.check_questions(rows, [2, 3, 0], [left, right, compared], "r4 y4 r5", ("end",))
        self.check_questions(rows, [2, 3, 1], [left, right, compared], "r4 n4", ("end",))
        for take in (0, 4):
            self.check_questions(rows, [take], [left], "r4 f4.index", ("fault", 4, "index"))
            self.check_questions(rows, [1, take], [left, right], "r4 f4.index", ("fault", 4, "index"))

    def test_the_index_before_the_sign_comes_before_the_index_behind_it(self):
        rows = [HEAD, ITEMS, "input b from 0 to 9", "list ys 2 = 0", "ys[a] = xs[b]", "let c = ys[1]", "answer c"]
        before, behind = index_ways(A, 2), index_ways((5, 0), 3)
        self.check_questions(rows, [2, 3], [before, behind], "r4 r5 r6 r7", ("answer", (4, 0)))
        self.check_questions(rows, [1, 3], [before, behind], "r4 r5 r6 r7", ("answer", (0, 0)))
        for take in (0, 3):
            self.check_questions(rows, [take], [before], "r4 r5 f5.index", ("fault", 5, "index"))
        for take in (0, 4):
            self.check_questions(rows, [1, take], [before, behind], "r4 r5 f5.index", ("fault", 5, "index"))

    def test_the_range_comes_last(self):
        rows = [HEAD, ITEMS, "let c from 0 to 5 = xs[a] + 1", "answer c"]
        index, kept = index_ways(A, 3), range_ways((3, 1), 0, 5)
        self.check_questions(rows, [2, 1], [index, kept], "r3 r4", ("answer", (3, 1)))
        for take in (0, 2):
            self.check_questions(rows, [2, take], [index, kept], "r3 f3.range", ("fault", 3, "range"))
        self.check_questions(rows, [0], [index], "r3 f3.index", ("fault", 3, "index"))
        rows = [HEAD, ITEMS, "let c from 0 to 5 = 1", "c = xs[a]", "answer c"]
        kept = range_ways((3, 0), 0, 5)
        self.check_questions(rows, [2, 1], [index, kept], "r3 r4 r5", ("answer", (3, 0)))
        self.check_questions(rows, [2, 2], [index, kept], "r3 r4 f4.range", ("fault", 4, "range"))

    def test_the_range_of_a_call_comes_behind_the_function(self):
        rows = [HEAD, "def f(x)", "if x < 4", "return x + 1", "end", "end", "let c from 0 to 5 = 1", "c = f(a)",
            "answer c"]
        compared, kept = compare_ways("<", A, (0, 4)), range_ways((1, 1), 0, 5)
        self.check_questions(rows, [0, 1], [compared, kept], "r7 r8 r3 y3 r4 r9", ("answer", (1, 1)))
        self.check_questions(rows, [0, 0], [compared, kept], "r7 r8 r3 y3 r4 f8.range", ("fault", 8, "range"))
        self.check_questions(rows, [1], [compared], "r7 r8 r3 n3 r9", ("answer", (0, 0)))

    def test_a_question_of_one_way_is_not_asked(self):
        rows = [
            HEAD, ITEMS, "let c from 0 to 5 = 2", "c = c + 3", "list ys 3 = xs[c - 3]", "ys[0] = a", "if a < a",
            "skip", "end", "if ys[1] == xs[2]", "if c < 6", "skip", "end", "end", "answer ys[0] + 1",
        ]
        self.check_questions(rows, [], [], "r3 r4 r5 r6 r7 n7 r10 y10 r11 y11 r12 r15", ("answer", (1, 1)))
        self.check_questions([HEAD, "let c from 0 to 5 = 6"], [], [], "r2 f2.range", ("fault", 2, "range"))
        self.check_questions([HEAD, ITEMS, "answer xs[3]"], [], [], "r3 f3.index", ("fault", 3, "index"))
        self.check_questions([HEAD, "check a < a"], [], [], "r2 n2 f2.check", ("fault", 2, "check"))
        self.check_questions([HEAD, "if a - 1 < a", "end"], [], [], "r2 y2", ("end",))

    def test_the_number_of_the_unknown_of_an_item(self):
        rows = ["input xs list 2 from 0 to 5", "input a from 0 to 5", "input ys list 2 from 0 to 5", "if ys[1] < a",
            "end"]
        self.check_questions(rows, [1], [compare_ways("<", (5, 0), (3, 0))], "r4 n4", ("end",))

    def test_a_condition_asks_only_as_far_as_needed(self):
        one, two = compare_ways("<", A, (0, 3)), compare_ways(">", (2, 0), (0, 4))
        for condition, takes, questions, answer in (
            ("a < 3 and b > 4", [1], [one], "n"), ("a < 3 and b > 4", [0, 0], [one, two], "y"),
            ("a < 3 and b > 4", [0, 1], [one, two], "n"), ("a < 3 or b > 4", [0], [one], "y"),
            ("a < 3 or b > 4", [1, 0], [one, two], "y"), ("a < 3 or b > 4", [1, 1], [one, two], "n"),
            ("not a < 3", [0], [one], "n"), ("not (a < 3 and b > 4)", [1], [one], "y"),
            ("not a < 3 and b > 4", [0], [one], "n"), ("1 < 2 or a < 3", [], [], "y"), ("2 < 1 and a < 3", [], [], "n"),
            ("a < 3 and 2 < 1 and b > 4", [0], [one], "n"), ("(a < 3 or b > 4) and 2 < 1", [0], [one], "n"),
        ):
            rows = [HEAD, "input b from 0 to 9", "if " + condition, "end"]
            self.check_questions(rows, takes, questions, f"r3 {answer}3", ("end",))

    def test_an_index_outside_in_a_condition_that_is_needed_or_not(self):
        rows = [HEAD, ITEMS, "if a < 3 and xs[a] == 1", "end"]
        one, index = compare_ways("<", A, (0, 3)), index_ways(A, 3)
        self.check_questions(rows, [1], [one], "r3 n3", ("end",))
        self.check_questions(rows, [0, 0], [one, index], "r3 f3.index", ("fault", 3, "index"))
        self.check_questions(
            rows, [0, 1, 2], [one, index, compare_ways("==", FIRST, (0, 1))], "r3 n3", ("end",))

    def test_the_whole_of_a_condition_in_order(self):
        rows = [HEAD, ITEMS, "if not (xs[0] == a) and (xs[1] < a or a >= xs[2])", "end"]
        questions = [compare_ways("==", FIRST, A), compare_ways("<", SECOND, A), compare_ways(">=", A, THIRD)]
        self.check_questions(rows, [1, 1, 0], questions, "r3 y3", ("end",))
        self.check_questions(rows, [2, 1, 1], questions, "r3 n3", ("end",))
        self.check_questions(rows, [0], questions[:1], "r3 n3", ("end",))

    def test_turns_by_a_way(self):
        rows = [HEAD, "let i = 0", "while i < a at most 2", "i = i + 1", "end"]
        questions = [compare_ways("<", (0, k), A) for k in range(3)]
        self.check_questions(
            rows, [0, 0, 0], questions, "r2 r3 y3 t3.1 r4 r3 y3 t3.2 r4 r3 y3 f3.turns", ("fault", 3, "turns"))
        self.check_questions(rows, [0, 0, 1], questions, "r2 r3 y3 t3.1 r4 r3 y3 t3.2 r4 r3 n3", ("end",))
        self.check_questions(rows, [1], questions[:1], "r2 r3 n3", ("end",))

    def test_check_and_refuse_by_a_way(self):
        rows = [HEAD, "check a != 0", "if a < 5", "refuse small", "end", "answer a"]
        unlike, small = compare_ways("!=", A, (0, 0)), compare_ways("<", A, (0, 5))
        self.check_questions(rows, [2], [unlike], "r2 n2 f2.check", ("fault", 2, "check"))
        for take in (0, 1):
            self.check_questions(rows, [take, 0], [unlike, small], "r2 y2 r3 y3 r4 f4.small", ("fault", 4, "small"))
            self.check_questions(rows, [take, 1], [unlike, small], "r2 y2 r3 n3 r6", ("answer", (1, 0)))

    def test_the_same_question_is_asked_again_in_another_row(self):
        rows = [HEAD, "if a < 5", "end", "if a < 5", "end"]
        small = compare_ways("<", A, (0, 5))
        self.check_questions(rows, [0, 0], [small, small], "r2 y2 r4 y4", ("end",))
        self.check_questions(rows, [0, 1], [small, small], "r2 y2 r4 n4", ("end",))

    def test_advance_behind_ask_and_over_changes_nothing(self):
        run = FormRun(self.good(HEAD, "check a < 5", "answer a"))
        self.assertEqual(run.advance(), "event")
        ways = compare_ways("<", A, (0, 5))
        for _ in range(4):
            self.assertEqual(run.advance(), "ask")
            self.assertEqual((run.events, run.question), ([("row", 2)], ways))
        run.take(0)
        self.assertEqual([run.advance(), run.advance()], ["event", "event"])
        self.assertIsNone(run.question)
        for _ in range(4):
            self.assertEqual(run.advance(), "over")
            self.assertEqual(run.events, events_of("r2 y2 r3"))
            self.assertEqual((run.outcome, run.question), (("answer", (1, 0)), None))

    def test_an_ask_adds_no_event_and_events_come_one_by_one(self):
        run = FormRun(self.good(HEAD, "while a < 5 at most 1", "end", "check a < 9"))
        words = []
        while not words or words[-1][0] != "over":
            word = run.advance()
            words.append((word, len(run.events)))
            if word == "ask":
                run.take(0)
        self.assertEqual(
            words,
            [("event", 1), ("ask", 1), ("event", 2), ("event", 3), ("event", 4), ("ask", 4), ("event", 5), ("event", 6),
                ("over", 6)],
        )
        self.assertEqual(run.events, events_of("r2 y2 t2.1 r2 y2 f2.turns"))

    def test_variables_as_forms(self):
        rows = (
            HEAD, ITEMS, "let c = a + 1", "list ys 2 = c", "ys[1] = xs[0]", "c = ys[1] - 3", "let d from -90 to 90 = 5",
            "answer c",
        )
        run = FormRun(self.good(*rows))
        first = {"a": A, "xs": [FIRST, SECOND, THIRD]}
        second = {**first, "c": (1, 1)}
        third = {**second, "ys": [(1, 1), (1, 1)]}
        fourth = {**second, "ys": [(1, 1), FIRST]}
        fifth = {**fourth, "c": (2, -3)}
        for expected in (first, second, third, fourth, fifth, {**fifth, "d": (0, 5)}):
            self.assertEqual(run.advance(), "event")
            self.assertEqual(run.variables, expected)
        self.assertEqual(run.advance(), "over")
        self.assertEqual(run.outcome, ("answer", (2, -3)))

    def test_some_thousand_questions_follow_one_another(self):
        condition = " and ".join(["a != 0"] * 6)
        rows = [HEAD, "let i = 0", "let j = 0", "while i < 8 at most 8", "j = 0", "while j < 8 at most 8"]
        rows += ["if " + condition, "end"] * 10 + ["j = j + 1", "end", "i = i + 1", "end"]
        run = FormRun(self.good(*rows))
        asked = 0
        while run.advance() != "over":
            if run.question is not None:
                asked += 1
                run.take(0)
        self.assertEqual(asked, 8 * 8 * 10 * 6)
        self.assertEqual(run.outcome, ("end",))


class GoingTheWayOfInputsTest(Case):

    def follow(self, program, inputs):
        told = run_program(program, inputs)
        known = FormRun(program, inputs=inputs)
        run = FormRun(program)
        while True:
            word = run.advance()
            if word == "ask":
                self.assertGreater(len(run.question), 1)
                run.take(kept_way(run.question, inputs))
                continue
            self.assertEqual(known.advance(), word)
            if word == "over":
                break
            if run.events[-1][0] == "row":
                shown = {name: value_form(held, inputs) for name, held in run.variables.items()}
                self.assertEqual(shown, known.variables)
        self.assertEqual(run.events, told.events, write_program(program))
        self.assertEqual(outcome_with_values(run.outcome, inputs), told.outcome)

    def test_small_programs_with_all_inputs(self):
        for text in SMALL:
            program = read_program(text)
            for inputs in all_inputs(program):
                self.follow(program, inputs)

    def test_random_programs(self):
        for program in random_programs(250, 3000):
            for inputs in some_inputs(program, 8, 5):
                self.follow(program, inputs)

    def test_the_example(self):
        program = read_program(LATER)
        for inputs in some_inputs(program, 30, 6):
            self.follow(program, inputs)

    def test_the_variables_have_the_values_of_the_run(self):
        # run_program does not show its variables, but a "when" of a place looks at them.
        programs = [read_program(text) for text in SMALL + (LATER,)] + random_programs(30, 3500)
        for program in programs:
            for inputs in some_inputs(program, 3, 7):
                run = FormRun(program)
                while True:
                    word = run.advance()
                    if word == "over":
                        break
                    if word == "ask":
                        run.take(kept_way(run.question, inputs))
                    elif run.events[-1][0] == "row":
                        self.compare(program, inputs, run)

    def compare(self, program, inputs, run):
        number = len(run.events) - 1
        row = run.events[-1][1]
        again = run.events.count(("row", row))
        for name, held in run.variables.items():
            items = enumerate(held) if isinstance(held, list) else [(None, held)]
            for at, form in items:
                side = ("var", name, 0) if at is None else ("item", name, ("num", at), 0)
                unlike = ("when", row, "!=", side, ("num", form_value(form, inputs)))
                like = ("when", row, "==", side, ("num", form_value(form, inputs)))
                if again == 1:
                    self.assertEqual(run_program(program, inputs, place=(like,)).met, number)
                    self.assertNotEqual(run_program(program, inputs, place=(unlike,)).met, number)
                elif again == 2:
                    self.assertEqual(run_program(program, inputs, place=(("row", row), like)).met, number)


if __name__ == "__main__":
    unittest.main()
