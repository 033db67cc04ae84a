import unittest

from samples import (
    LATER, SMALL, Tree, all_inputs, check_refusals, checks_of, events_of, few_inputs, program_of, random_programs,
    runs_of)
from wayorring.chains import keeps
from wayorring.errors import TooWide
from wayorring.formrun import FormRun
from wayorring.meaning import run_program
from wayorring.program import Program
from wayorring.reader import read_program
from wayorring.survey import Way, reachable, survey_program, way_of
from wayorring.walks import PlaceWalk
from wayorring.ways import form_value
from wayorring.writer import write_program

HEAD = "input a from 0 to 9"
PAIR = [HEAD, "input b from 0 to 9"]
PROGRAMS = [read_program(text) for text in SMALL] + few_inputs(random_programs(70, 12000), 150)


def told(way):
    return way.differences, way.least, way.events, way.outcome


def outcome_of(way, inputs):
    """The outcome of a way with these inputs."""
    if way.outcome[0] == "answer":
        return ("answer", form_value(way.outcome[1], inputs))
    return way.outcome


class SurveyTest(unittest.TestCase):

    def test_a_small_one(self):
        ways = survey_program(program_of(*PAIR, "if a > b + 2", "answer a + 1", "end", "check b == 5"))
        ranges = ((1, 0, 9), (0, 1, 0), (2, 0, 9), (0, 2, 0))
        self.assertEqual([told(way) for way in ways], [
            (ranges + ((2, 1, -3),), (3, 0), tuple(events_of("r3 y3 r4")), ("answer", (1, 1))),
            (ranges + ((1, 2, 2), (2, 0, 5), (0, 2, -5)), (0, 5), tuple(events_of("r3 n3 r6 y6")), ("end",)),
            (ranges + ((1, 2, 2), (2, 0, 4)), (0, 0), tuple(events_of("r3 n3 r6 n6 f6.check")), ("fault", 6, "check")),
            (ranges + ((1, 2, 2), (0, 2, -6)), (0, 6), tuple(events_of("r3 n3 r6 n6 f6.check")), ("fault", 6, "check")),
        ])

    def test_one_way(self):
        ways = survey_program(program_of("input a from -3 to 9", "answer 4"))
        self.assertEqual([told(way) for way in ways], [
            (((1, 0, 9), (0, 1, 3)), (-3,), (("row", 2),), ("answer", (0, 4)))])

    def test_ways_that_are_dead_are_left_out(self):
        ways = survey_program(program_of(HEAD, "check a >= 0", "if a < 4", "check a != 7", "end"))
        self.assertEqual([way.least for way in ways], [(0,), (4,)])
        self.assertEqual([way.outcome for way in ways], [("end",), ("end",)])
        ways = survey_program(program_of("input xs list 2 from 0 to 0", "input k from 0 to 1", "answer xs[k]"))
        self.assertEqual([way.outcome for way in ways], [("answer", (1, 0)), ("answer", (2, 0))])

    def test_the_kinds_of_values(self):
        ways = survey_program(program_of(*PAIR, "if a > b", "answer a", "end"))
        self.assertIsInstance(ways, list)
        for way in ways:
            self.assertIsInstance(way, Way)
            for held in told(way):
                self.assertIsInstance(held, tuple)

    def test_the_ways_are_those_of_the_tree_in_order(self):
        for program in PROGRAMS:
            tree = Tree(program, PlaceWalk(program, ()))
            self.assertEqual([told(way) for way in survey_program(program)], tree.ended, write_program(program))

    def test_every_input_keeps_the_differences_of_exactly_one_way(self):
        for program in PROGRAMS:
            ways = survey_program(program)
            for inputs, run in runs_of(program).items():
                kept = [way for way in ways if keeps(way.differences, inputs)]
                self.assertEqual(len(kept), 1)
                self.assertEqual(list(kept[0].events), run.events)
                self.assertEqual(outcome_of(kept[0], inputs), run.outcome)
                for k, value in enumerate(kept[0].least):
                    self.assertLessEqual(value, inputs[k])

    def test_least_values_keep_their_way(self):
        for program in PROGRAMS + [read_program(LATER)]:
            for way in survey_program(program):
                self.assertTrue(keeps(way.differences, way.least))
                run = run_program(program, way.least)
                self.assertEqual((tuple(run.events), run.outcome), (way.events, outcome_of(way, way.least)))

    def test_a_greater_program(self):
        program = read_program(LATER)
        ways = survey_program(program)
        for inputs in ([0, -5, 7, 7], [99, 1000000, 99, -5], [4, 4, 4, 4], [50, 60, 40, 70]):
            way = ways[way_of(ways, inputs)]
            run = run_program(program, inputs)
            self.assertEqual((list(way.events), outcome_of(way, inputs)), (run.events, run.outcome))
        whole = FormRun(program, inputs=[0, 0, 0, 0])
        while whole.advance() != "over":
            self.assertIsNone(whole.question)
        self.assertEqual(tuple(whole.events), ways[way_of(ways, [0, 0, 0, 0])].events)

    def test_refusals(self):
        check_refusals(self, survey_program)
        with self.assertRaises(TooWide):
            survey_program(program_of(*checks_of(4096)))
        with self.assertRaises(TooWide):
            survey_program(program_of(*checks_of(4095)[:-1], "check a < 5"))
        self.assertEqual([way.least for way in survey_program(program_of(*checks_of(4095)))], [(0,)])
        ways = survey_program(program_of(*checks_of(4094)[:-1], "check a < 5"))
        self.assertEqual([way.least for way in ways], [(0,), (5,)])

    def test_again_behind_changes_to_what_was_returned(self):
        program = program_of(*PAIR, "if a > b + 2", "answer a + 1", "end", "check b == 5")
        ways = survey_program(program)
        first = [told(way) for way in ways]
        events = reachable(ways)
        kept = list(events)
        events.clear()
        self.assertEqual(reachable(ways), kept)
        reachable(ways).reverse()
        self.assertEqual(reachable(ways), kept)
        ways.clear()
        self.assertEqual([told(way) for way in survey_program(program)], first)
        survey_program(program).reverse()
        again = survey_program(program)
        self.assertEqual([told(way) for way in again], first)
        self.assertEqual(reachable(again), kept)
        self.assertEqual(way_of(again, [0, 5]), 1)
        self.assertTrue(program.same(Program(program.inputs, program.functions, program.body)))


class WayOfTest(unittest.TestCase):

    def test_lists_and_tuples(self):
        ways = survey_program(program_of(*PAIR, "if a > b + 2", "answer a + 1", "end", "check b == 5"))
        for inputs, number in (
            ([3, 0], 0), ([9, 6], 0), ([2, 0], 2), ([0, 5], 1), ([7, 5], 1), ([8, 5], 0), ([9, 9], 3),
        ):
            given = list(inputs)
            self.assertEqual(way_of(ways, given), number)
            self.assertEqual(given, inputs)
            self.assertEqual(way_of(ways, tuple(inputs)), number)

    def test_outside_of_the_ranges(self):
        ways = survey_program(program_of(*PAIR, "if a > b + 2", "answer a + 1", "end", "check b == 5"))
        for inputs in ([-1, 0], [10, 0], [0, -1], [0, 10], [-1, -1], [10 ** 20, 0], [3, -10 ** 20]):
            self.assertIsNone(way_of(ways, inputs))
            self.assertIsNone(way_of(ways, tuple(inputs)))

    def test_every_input(self):
        for program in PROGRAMS[:30]:
            ways = survey_program(program)
            for inputs in all_inputs(program):
                number = way_of(ways, inputs)
                self.assertEqual(list(ways[number].events), run_program(program, inputs).events)
                self.assertEqual([keeps(way.differences, inputs) for way in ways].index(True), number)

    def test_some_of_the_ways(self):
        ways = survey_program(program_of(HEAD, "check a == 5"))
        self.assertEqual([way_of(ways[1:], [number]) for number in (3, 5, 7)], [0, None, 1])
        self.assertIsNone(way_of([], [3]))


class ReachableTest(unittest.TestCase):

    def test_ascending_and_each_once(self):
        program = program_of(HEAD, "while a < 3 at most 2", "skip", "end", "check a > 5")
        self.assertEqual(reachable(survey_program(program)), [
            ("fault", 2, "turns"), ("fault", 5, "check"), ("no", 2), ("no", 5), ("row", 2), ("row", 3), ("row", 5),
            ("turn", 2, 1), ("turn", 2, 2), ("yes", 2), ("yes", 5)])
        self.assertEqual(reachable([]), [])

    def test_the_events_of_all_inputs(self):
        for program in PROGRAMS:
            found = {event for run in runs_of(program).values() for event in run.events}
            self.assertEqual(reachable(survey_program(program)), sorted(found))


if __name__ == "__main__":
    unittest.main()
