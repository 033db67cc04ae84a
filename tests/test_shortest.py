import itertools
import random
import unittest

from samples import (
    LATER, SMALL, check_refusals, checks_of, choosing_program, few_inputs, program_of, random_programs)
from wayorring.errors import TooWide
from wayorring.meaning import run_program
from wayorring.reader import read_program
from wayorring.shortest import check_shortest, greatest_sets, shortest_suite
from wayorring.suite import make_suite
from wayorring.survey import reachable, survey_program
from wayorring.writer import write_program

HEAD = "input a from 0 to 9"
SEEDS = (1, 2, 3, 29, 115, 147, 148, 191, 253, 263, 272, 285, 398, 409, 609, 722)
CHOOSING = [choosing_program(seed) for seed in SEEDS]
LOOPS = [
    program_of(HEAD, "let i = 0", "while i < a at most 8", "i = i + 1", "if a == 20", "skip", "end", "end"),
    program_of(HEAD, "let i = 0", "while i < a at most 4", "i = i + 1", "end", "check i < 3"),
    program_of(HEAD, "input b from 0 to 9", "let i = a", "while i < b at most 3", "i = i + 2", "end", "answer i"),
]
PROGRAMS = [read_program(text) for text in SMALL] + few_inputs(random_programs(90, 30000), 150) + CHOOSING


def row(*numbers):
    """The events of these rows; one alone if there is one number."""
    return ("row", numbers[0]) if len(numbers) == 1 else tuple(("row", number) for number in numbers)


def holds_all(sets, chosen):
    return {event for at in chosen for event in sets[at]} == {event for events in sets for event in events}


def least_number(sets):
    """How many of the sets are needed to hold all events, tried by every choice."""
    for many in range(len(sets) + 1):
        if any(holds_all(sets, chosen) for chosen in itertools.combinations(range(len(sets)), many)):
            return many
    raise AssertionError("all sets hold all events")


def one_by_one(program, most):
    """A program with one row for each number from 1 on, and so many numbers."""
    rows = [f"input a from 1 to {most}"]
    for number in range(1, 13):
        rows += [f"if a == {number}", "skip", "end"]
    return program_of(*rows)


def shows(sets, many, paper):
    """Whether a paper shows that so many sets cannot hold all events, as the document tells it."""
    left = list(paper)

    def node(chosen, barred):
        if not left:
            return False
        event = left.pop(0)
        holders = [at for at, events in enumerate(sets) if event in events]
        if not holders or any(at in chosen for at in holders):
            return False
        if len(chosen) < many:
            for at in holders:
                if at not in barred:
                    if not node(chosen | {at}, barred):
                        return False
                    barred = barred | {at}
        return True

    return node(frozenset(), frozenset()) and not left


class GreatestSetsTest(unittest.TestCase):

    def sets(self, *rows):
        return greatest_sets(survey_program(program_of(*rows)))

    def test_one(self):
        self.assertEqual(self.sets(HEAD, "skip", "answer a"), [row(2, 3)])

    def test_sets_that_are_equal(self):
        self.assertEqual(self.sets(HEAD, "if a == 5", "end"), [
            (("row", 2), ("yes", 2)), (("no", 2), ("row", 2))])

    def test_a_part_of_another_set(self):
        rows = [HEAD, "while a < 3 at most 2", "if a == 1", "answer a", "end", "skip", "end"]
        self.assertEqual(self.sets(*rows), [
            (("row", 2), ("row", 3), ("row", 4), ("turn", 2, 1), ("yes", 2), ("yes", 3)),
            (("fault", 2, "turns"), ("no", 3), ("row", 2), ("row", 3), ("row", 6), ("turn", 2, 1), ("turn", 2, 2),
             ("yes", 2)),
            (("no", 2), ("row", 2)),
        ])
        rows = [HEAD, "let i = 0", "while i < a at most 8", "i = i + 1", "end"]
        turns = tuple(("turn", 3, k) for k in range(1, 9))
        self.assertEqual(self.sets(*rows), [
            (("fault", 3, "turns"),) + row(2, 3, 4) + turns + (("yes", 3),),
            (("no", 3),) + row(2, 3, 4) + turns + (("yes", 3),),
        ])

    def test_alike_events_count_once(self):
        rows = [HEAD, "def f(x)", "skip", "end", "let c = 0", "c = f(a)", "if a < 4", "c = f(a)", "end"]
        for events in self.sets(*rows):
            self.assertEqual(len(set(events)), len(events))
            self.assertEqual(events.count(("row", 3)), 1)
    def test_the_sets_of_many_programs(self):
        parts = equal = 0
        for program in PROGRAMS + LOOPS + [read_program(LATER)]:
            ways = survey_program(program)
            expected = []
            for way in ways:
                events = set(way.events)
                if any(events < set(other.events) for other in ways):
                    parts += 1
                elif tuple(sorted(events)) in expected:
                    equal += 1
                else:
                    expected.append(tuple(sorted(events)))
            found = greatest_sets(ways)
            self.assertIsInstance(found, list)
            self.assertEqual(found, expected, write_program(program))
            for events in found:
                self.assertIsInstance(events, tuple)
        self.assertGreater(parts, 10)
        self.assertGreater(equal, 20)

    def test_again_behind_a_change_to_the_list(self):
        ways = survey_program(program_of(HEAD, "if a < 5", "end"))
        told = [way.events for way in ways]
        found = greatest_sets(ways)
        kept = list(found)
        found.reverse()
        found.pop()
        self.assertEqual(greatest_sets(ways), kept)
        self.assertEqual([way.events for way in ways], told)


class ShortestSuiteTest(unittest.TestCase):

    def test_a_suite_that_is_as_short_as_can_be(self):
        shorter = 0
        for program in PROGRAMS:
            ways = survey_program(program)
            sets = greatest_sets(ways)
            if len(sets) > 12:
                continue
            suite, paper = shortest_suite(program)
            self.assertIsInstance(suite, list)
            self.assertIsInstance(paper, list)
            events = {event for inputs in suite for event in run_program(program, inputs).events}
            self.assertEqual(sorted(events), reachable(ways))
            for inputs in suite:
                self.assertIsInstance(inputs, tuple)
                self.assertIn(inputs, [way.least for way in ways])
            self.assertEqual(len(suite), least_number(sets))
            self.assertLessEqual(len(suite), len(make_suite(program)))
            shorter += len(suite) < len(make_suite(program))
            self.assertIs(check_shortest(sets, len(suite) - 1, paper), True)
            self.assertTrue(shows(sets, len(suite) - 1, paper))
            self.assertIs(check_shortest(sets, len(suite), paper), False)
        self.assertGreater(shorter, 5)

    def test_by_every_choice_of_ways(self):
        for program in PROGRAMS:
            ways = survey_program(program)
            sets = [tuple(sorted(set(way.events))) for way in ways]
            if len(ways) <= 9:
                self.assertEqual(len(shortest_suite(program)[0]), least_number(sets))

    def test_one_greatest_set(self):
        program = program_of("input a from -3 to 9", "skip", "answer a")
        suite, paper = shortest_suite(program)
        self.assertEqual(suite, [(-3,)])
        self.assertEqual(len(paper), 1)
        self.assertIn(paper[0], row(2, 3))
        self.assertIs(check_shortest([row(2, 3)], 0, paper), True)
        suite, paper = shortest_suite(program_of(*checks_of(40)[:-1]))
        self.assertEqual((suite, len(paper)), ([(0,)], 1))

    def test_twelve_and_thirteen_greatest_sets(self):
        twelve = one_by_one(None, 12)
        self.assertEqual(len(greatest_sets(survey_program(twelve))), 12)
        suite, paper = shortest_suite(twelve)
        self.assertEqual(sorted(suite), [(number,) for number in range(1, 13)])
        self.assertTrue(check_shortest(greatest_sets(survey_program(twelve)), 11, paper))
        thirteen = one_by_one(None, 13)
        self.assertEqual(len(greatest_sets(survey_program(thirteen))), 13)
        for _ in range(2):
            with self.assertRaises(TooWide):
                shortest_suite(thirteen)

    def test_more_ways_than_greatest_sets(self):
        program = LOOPS[0]
        ways = survey_program(program)
        self.assertGreater(len(ways), 9)
        self.assertEqual(len(shortest_suite(program)[0]), 2)
        rows = [HEAD] + [f"if a == {number}\nend" for number in range(9)] + ["check a > 20"]
        many = read_program("\n".join(rows))
        self.assertEqual(len(greatest_sets(survey_program(many))), 10)
        self.assertEqual(len(shortest_suite(many)[0]), 9)

    def test_again_behind_changes_to_the_lists(self):
        program = program_of(HEAD, "if a < 5", "answer a", "end", "check a > 7")
        suite, paper = shortest_suite(program)
        kept = list(suite), list(paper)
        suite.clear()
        paper.append(("row", 2))
        self.assertEqual(shortest_suite(program), kept)

    def test_refusals(self):
        check_refusals(self, shortest_suite)
        with self.assertRaises(TooWide):
            shortest_suite(program_of(*checks_of(4096)))
        self.assertEqual(shortest_suite(program_of(*checks_of(4095)))[0], [(0,)])


class CheckShortestTest(unittest.TestCase):

    def accepted(self, sets, many, *papers):
        for paper in papers:
            self.assertIs(check_shortest(sets, many, [("row", number) for number in paper]), True, (many, paper))

    def refused(self, sets, many, *papers):
        for paper in papers:
            self.assertIs(check_shortest(sets, many, [("row", number) for number in paper]), False, (many, paper))

    def test_no_sets(self):
        sets = [row(1, 2), row(2, 3)]
        self.accepted(sets, 0, [1], [2], [3])
        self.refused(sets, 0, [], [4], [1, 1], [1, 3], [2, 3, 1], [4, 1])
        self.accepted([(("row", 1),)], 0, [1])
        self.refused([(("row", 1),)], 1, [], [1], [1, 1], [2])
        self.refused([], 0, [], [1])
        self.refused([], 1, [], [1])

    def test_one_set(self):
        sets = [row(1, 2), row(2, 3)]
        self.accepted(sets, 1, [1, 3], [3, 1], [2, 3, 1])
        self.refused(
            sets, 1, [], [1], [2], [3], [1, 2], [1, 1], [3, 3], [2, 3], [2, 1, 3], [2, 3, 3], [2, 1, 1], [1, 3, 1],
            [2, 3, 1, 1], [2, 3, 1, 3], [4], [4, 3], [1, 4], [2, 3, 4], [2, 4, 1], [1, 3, 2], [3, 1, 2])
        self.refused(sets, 2, [1, 3], [3, 1], [2, 3, 1], [1, 3, 1], [1], [2], [])

    def test_two_sets(self):
        sets = [row(1, 2), row(3, 4), row(5, 6), row(1, 3, 5)]
        self.accepted(
            sets, 2, [2, 4, 6], [6, 4, 2], [2, 3, 6, 4], [1, 4, 6, 2], [1, 4, 6, 4, 2], [1, 4, 6, 4, 6],
            [1, 4, 6, 6, 2], [1, 6, 4, 2], [3, 2, 6, 4], [5, 2, 4, 6], [2, 5, 4, 6])
        self.refused(
            sets, 2, [], [2], [2, 4], [2, 6, 6], [1, 4, 6], [1, 2, 4, 6], [2, 4, 6, 4], [1, 4, 6, 2, 4],
            [1, 4, 6, 2, 2], [1, 4, 6, 2, 4, 6], [1, 4, 6, 1], [1, 4, 6, 3], [1, 4, 6, 5], [1, 4, 5, 3], [2, 4, 1],
            [2, 4, 3], [2, 1, 6], [7, 4, 6], [2, 7, 6], [2, 4, 7], [2, 3, 4, 6], [2, 3, 6], [2, 3, 6, 3], [1, 4, 6, 4],
            [1, 4, 6, 4, 3])
        self.refused(sets, 3, [2, 4, 6], [2, 4, 6, 1], [1, 4, 6, 2], [2, 4, 6, 5])
        self.accepted(sets, 1, [2, 4], [2, 3], [1, 3, 2], [1, 6, 4], [5, 1, 6])
        self.refused(sets, 1, [2, 4, 6], [1, 3], [1, 5, 5], [1, 3, 3], [1, 3, 1])
        self.accepted(sets, 0, [1], [6])

    def test_three_sets(self):
        sets = [row(1, 9), row(2, 9), row(3, 8, 9), row(4, 8)]
        self.accepted(sets, 3, [1, 2, 3, 4], [4, 3, 2, 1], [1, 2, 8, 4, 3], [8, 1, 2, 4, 3], [9, 2, 3, 4, 1, 1],
                      [1, 2, 4, 3], [9, 4, 3, 2, 1, 1])
        self.refused(sets, 3, [1, 2, 3], [1, 2, 8, 3, 4], [1, 2, 3, 4, 4], [8, 1, 2, 4], [1, 2, 3, 8], [1, 2, 3, 9])
        self.refused(sets, 4, [1, 2, 3, 4], [1, 2, 3, 4, 8])
        self.refused(sets, 10, [1, 2, 3, 4], [1, 2, 3, 4, 8], [1])

    def test_events_of_each_kind(self):
        sets = [(("fault", 3, "check"), ("no", 3), ("row", 3)), (("row", 3), ("turn", 3, 1), ("yes", 3))]
        for paper, right in (
            ([("yes", 3), ("no", 3)], True), ([("turn", 3, 1), ("fault", 3, "check")], True),
            ([("row", 3), ("turn", 3, 1), ("no", 3)], True), ([("turn", 3, 2), ("fault", 3, "check")], False),
            ([("fault", 3, "index"), ("yes", 3)], False), ([("row", 3), ("no", 3), ("turn", 3, 1)], False),
        ):
            self.assertIs(check_shortest(sets, 1, paper), right)

    def test_all_papers_of_small_sets(self):
        chance = random.Random(8)
        right = 0
        for _ in range(60):
            sets = []
            while len(sets) < chance.randint(2, 4):
                events = row(*sorted(chance.sample(range(1, 5), chance.randint(2, 3))))
                if events not in sets:
                    sets.append(events)
            needed = least_number(sets)
            for many in range(4):
                found = 0
                for size in range(5):
                    for numbers in itertools.product(range(1, 5), repeat=size):
                        paper = [("row", number) for number in numbers]
                        accepted = check_shortest(sets, many, paper)
                        self.assertIs(accepted, shows(sets, many, paper), (sets, many, paper))
                        found += accepted
                if many >= needed:
                    self.assertEqual(found, 0)
                right += found
        self.assertGreater(right, 100)

    def test_spoilt_papers(self):
        for program in CHOOSING:
            sets = greatest_sets(survey_program(program))
            suite, paper = shortest_suite(program)
            for at in range(len(paper)):
                for spoilt in (
                    paper[:at] + paper[at + 1:], paper[:at] + [paper[at]] + paper[at:], paper[:at],
                    paper[at:] + paper[:at],
                    paper[:at] + [("row", 99)] + paper[at + 1:], paper[:at + 1][::-1] + paper[at + 1:],
                ):
                    self.assertIs(check_shortest(sets, len(suite) - 1, spoilt), shows(sets, len(suite) - 1, spoilt))

    def test_the_arguments_are_unchanged(self):
        sets = [row(1, 2), row(3, 4), row(5, 6), row(1, 3, 5)]
        paper = [("row", number) for number in (1, 4, 6, 2)]
        for many in (0, 1, 2, 3):
            check_shortest(sets, many, paper)
            self.assertEqual(sets, [row(1, 2), row(3, 4), row(5, 6), row(1, 3, 5)])
            self.assertEqual(paper, [("row", number) for number in (1, 4, 6, 2)])

    def test_a_long_paper(self):
        # 2000 sets with an event of their own each; the tree has one node below the other.
        sets = [(("row", number),) for number in range(2000)]
        paper = [("row", number) for number in range(2000)]
        self.assertTrue(check_shortest(sets, 1999, paper))
        self.assertFalse(check_shortest(sets, 1999, paper[:-1]))
        self.assertFalse(check_shortest(sets, 2000, paper))


if __name__ == "__main__":
    unittest.main()
