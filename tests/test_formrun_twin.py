import copy
import unittest

from samples import LATER, SMALL, events_of, program_of, random_programs, some_inputs
from test_formrun import go, kept_way, outcome_with_values
from wayorring.checks import check_program
from wayorring.formrun import FormRun
from wayorring.meaning import run_program
from wayorring.reader import read_program
from wayorring.ways import compare_ways

HEAD = "input a from -9 to 9"
ROWS = (
    HEAD, "def f(x)", "list zs 2 = x", "while x < 3 at most 2", "zs[1] = x", "x = x + 1", "end", "return zs[1]", "end",
    "list ys 3 = 0", "let c from -9 to 9 = a", "ys[1] = c", "c = f(a)", "ys[a] = c", "if ys[1] < c", "refuse low",
    "end",
    "answer ys[2]",
)


def state(run):
    """What a run shows."""
    return copy.deepcopy((run.events, run.outcome, run.question, run.variables))


def advance_to(run, word):
    """Goes on until advance gives a word; always the way in the middle."""
    while True:
        found = run.advance()
        if found == word:
            return
        assert found != "over"
        if found == "ask":
            run.take(len(run.question) // 2)


class Case(unittest.TestCase):

    def run_of(self, *rows):
        program = program_of(*rows)
        check_program(program)
        return FormRun(program)


class TwinTest(Case):

    def test_at_the_beginning(self):
        run = self.run_of(HEAD, "if a < 5", "answer 1", "end", "answer a")
        twin = run.twin()
        go(run, [0])
        self.assertEqual(twin.events, [])
        self.assertIsNone(twin.question)
        go(twin, [1])
        self.assertEqual((run.events, run.outcome), (events_of("r2 y2 r3"), ("answer", (0, 1))))
        self.assertEqual((twin.events, twin.outcome), (events_of("r2 n2 r5"), ("answer", (1, 0))))

    def test_at_a_question(self):
        run = self.run_of(HEAD, "if a < 5", "answer 1", "end", "answer a")
        advance_to(run, "ask")
        twin = run.twin()
        ways = compare_ways("<", (1, 0), (0, 5))
        self.assertEqual((twin.events, twin.question), ([("row", 2)], ways))
        self.assertEqual(twin.advance(), "ask")
        run.take(0)
        self.assertEqual(twin.question, ways)
        self.assertEqual(run.advance(), "event")
        self.assertEqual((twin.events, twin.question, twin.advance()), ([("row", 2)], ways, "ask"))
        twin.take(1)
        self.assertEqual(twin.advance(), "event")
        self.assertEqual((run.events, twin.events), (events_of("r2 y2"), events_of("r2 n2")))

    def test_at_a_later_question_of_a_row(self):
        run = self.run_of(HEAD, "input b from 0 to 9", "if a < 5 and b < 3 and a < b", "answer 1", "end", "answer 2")
        advance_to(run, "ask")
        run.take(0)
        advance_to(run, "ask")
        twin = run.twin()
        run.take(1)
        go(run)
        twin.take(0)
        self.assertEqual(twin.advance(), "ask")
        self.assertEqual(twin.question, compare_ways("<", (1, 0), (2, 0)))
        other = twin.twin()
        go(twin, [0])
        go(other, [1])
        self.assertEqual([one.outcome[1] for one in (run, twin, other)], [(0, 2), (0, 1), (0, 2)])

    def test_between_the_events_of_a_row(self):
        run = self.run_of(HEAD, "check a < 5", "while a < 4 at most 1", "end")
        advance_to(run, "ask")
        run.take(1)
        self.assertEqual(run.advance(), "event")
        twin = run.twin()
        self.assertEqual([run.advance(), run.advance()], ["event", "over"])
        self.assertEqual(twin.events, events_of("r2 n2"))
        self.assertEqual([twin.advance(), twin.advance()], ["event", "over"])
        self.assertEqual((run.events, twin.events), (events_of("r2 n2 f2.check"),) * 2)
        self.assertEqual(twin.outcome, ("fault", 2, "check"))

    def test_behind_the_end(self):
        for head, takes in (("check a < 5", [1]), ("answer a", []), ("skip", [])):
            run = self.run_of(HEAD, head)
            go(run, takes)
            twin = run.twin()
            for one in (twin, run, twin.twin()):
                self.assertEqual(one.advance(), "over")
                self.assertEqual((one.events, one.outcome, one.question), (run.events, run.outcome, None))

    def test_a_twin_of_a_twin(self):
        runs = [self.run_of(HEAD, "while a < 5 at most 4", "end", "answer a")]
        for _ in range(4):
            advance_to(runs[-1], "ask")
            runs.append(runs[-1].twin())
            runs[-1].take(0)
        for number, run in enumerate(runs[:-1]):
            self.assertEqual(len(run.events), 3 * number + 1)
            go(run, [1])
            self.assertEqual(run.outcome, ("answer", (1, 0)))
            self.assertEqual(len([event for event in run.events if event[0] == "turn"]), number)
        go(runs[-1], [0])
        self.assertEqual(runs[-1].outcome, ("fault", 2, "turns"))

    def test_a_twin_with_inputs(self):
        program = program_of(*ROWS)
        run = FormRun(program, inputs=[2])
        for _ in range(5):
            run.advance()
        twin = run.twin()
        go(run)
        self.assertEqual(len(twin.events), 5)
        self.assertEqual(go(twin), [])
        self.assertEqual((twin.events, twin.outcome), (run.events, run.outcome))
        self.assertEqual(twin.events, run_program(program, [2]).events)

    def test_variables_and_lists_that_were_written_before_and_behind(self):
        rows = (HEAD, "list ys 2 = a", "let c = a", "ys[0] = 5", "c = 6", "ys[1] = 7", "ys[0] = 8", "c = 9", "skip")
        run = self.run_of(*rows)
        for _ in range(4):
            run.advance()
        self.assertEqual(run.events[-1], ("row", 5))
        before = {"a": (1, 0), "ys": [(0, 5), (1, 0)], "c": (1, 0)}
        twin = run.twin()
        self.assertEqual((run.variables, twin.variables), (before, before))
        for _ in range(4):
            self.assertEqual(twin.advance(), "event")
        self.assertEqual(twin.variables, {"a": (1, 0), "ys": [(0, 8), (0, 7)], "c": (0, 9)})
        self.assertEqual(run.variables, before)
        self.assertEqual(run.events[-1], ("row", 5))
        self.assertEqual(run.advance(), "event")
        self.assertEqual(run.variables, {**before, "c": (0, 6)})
        self.assertEqual(run.advance(), "event")
        self.assertEqual(run.variables, {**before, "c": (0, 6), "ys": [(0, 5), (0, 7)]})
        self.assertEqual(twin.variables, {"a": (1, 0), "ys": [(0, 8), (0, 7)], "c": (0, 9)})

    def test_within_a_function(self):
        run = self.run_of(*ROWS)
        for _ in range(200):
            if run.events[-1:] == [("row", 5)]:
                break
            if run.advance() == "ask":
                # The range is kept, and the condition of the while holds.
                run.take(1 if len(run.question) == 3 else 0)
        self.assertEqual(run.variables, {"x": (1, 0), "zs": [(1, 0), (1, 0)]})
        twin = run.twin()
        shown = state(run)
        advance_to(twin, "over")
        self.assertEqual(state(run), shown)
        ended = state(twin)
        advance_to(run, "over")
        self.assertEqual(state(run), ended)
        self.assertEqual(state(twin), ended)

    def test_one_goes_on_while_what_the_other_shows_stays(self):
        for program in [program_of(*ROWS)] + [read_program(text) for text in SMALL + (LATER,)] + random_programs(60,
            7000):
            run = FormRun(program)
            word = None
            while word != "over":
                twin = run.twin()
                self.assertEqual(state(twin), state(run))
                shown = state(run)
                advance_to(twin, "over")
                self.assertEqual(state(run), shown)
                ended = state(twin)
                word = run.advance()
                if word == "ask":
                    run.take(len(run.question) // 2)
                self.assertEqual(state(twin), ended)
            self.assertEqual(ended[:2], state(run)[:2])

    def test_twins_at_each_question_go_the_ways_of_inputs(self):
        for program in random_programs(60, 7500):
            for inputs in some_inputs(program, 4, 8):
                told = run_program(program, inputs)
                run = FormRun(program)
                while True:
                    word = run.advance()
                    if word == "over":
                        break
                    if word == "ask":
                        others = [run.twin() for _ in run.question]
                        number = kept_way(run.question, inputs)
                        for at, other in enumerate(others):
                            other.take(at)
                            advance_to(other, "over")
                        run = run.twin()
                        run.take(number)
                self.assertEqual(run.events, told.events)
                self.assertEqual(outcome_with_values(run.outcome, inputs), told.outcome)


if __name__ == "__main__":
    unittest.main()
