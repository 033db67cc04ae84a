import unittest

from samples import (
    LATER, SMALL, check_refusals, checks_of, choosing_program, few_inputs, program_of, random_programs, runs_of)
from wayorring.checker import check_paper
from wayorring.errors import TooWide
from wayorring.meaning import run_program
from wayorring.papers import Paper, read_paper, write_paper
from wayorring.places import standing
from wayorring.reader import read_program
from wayorring.search import find_least
from wayorring.suite import make_suite, unreachable
from wayorring.survey import reachable, survey_program
from wayorring.writer import write_program

HEAD = "input a from 0 to 9"
PAIR = [HEAD, "input b from 0 to 9"]
PROGRAMS = [read_program(text) for text in SMALL] + few_inputs(random_programs(90, 20000), 150)
# In each of these some inputs are left out again; in the last four it counts which are looked at first.
CHOOSING = [choosing_program(seed) for seed in (29, 30, 37, 51, 56, 115, 145, 452, 823)]


def reached(program, suite):
    """The ascending list of the events that the runs of the inputs reach."""
    return sorted({event for inputs in suite for event in run_program(program, inputs).events})


def added_inputs(ways):
    """The inputs that are added one after the other, before any is left out."""
    missing = {event for way in ways for event in way.events}
    added = []
    while missing:
        best = max(ways, key=lambda way: len(missing & set(way.events)))
        added.append(best.least)
        missing -= set(best.events)
    return added


def thinned(added, holds_all):
    """The inputs that stay when each, from the last to the first, is left out if the others hold all."""
    for at in reversed(range(len(added))):
        rest = added[:at] + added[at + 1:]
        if holds_all(rest):
            added = rest
    return added


class MakeSuiteTest(unittest.TestCase):

    def test_just_this_list(self):
        for program in PROGRAMS + CHOOSING + [read_program(LATER)]:
            suite = make_suite(program)
            self.assertIsInstance(suite, list)
            self.assertEqual(suite, self.expected(program), write_program(program))

    def expected(self, program):
        ways = survey_program(program)
        return thinned(added_inputs(ways), lambda rest: reached(program, rest) == reachable(ways))

    def test_all_that_can_be_reached_is_reached(self):
        for program in PROGRAMS + CHOOSING:
            found = {event for run in runs_of(program).values() for event in run.events}
            suite = make_suite(program)
            self.assertEqual(reached(program, suite), sorted(found))
            for at in range(len(suite)):
                self.assertNotEqual(reached(program, suite[:at] + suite[at + 1:]), sorted(found))
            for inputs in suite:
                self.assertIsInstance(inputs, tuple)

    def test_one_way(self):
        self.assertEqual(make_suite(program_of("input a from -3 to 9", "skip", "answer a")), [(-3,)])

    def test_the_first_of_several_ways(self):
        # The four ways have as many events each.
        rows = PAIR + ["if a > 4", "skip", "else", "skip", "end", "if b > 4", "skip", "else", "skip", "end"]
        self.assertEqual(make_suite(program_of(*rows)), [(5, 5), (0, 0)])
        rows = PAIR + ["if a == 4", "skip", "else", "skip", "end"]
        self.assertEqual(make_suite(program_of(*rows)), [(4, 0), (0, 0)])

    def test_the_way_with_most_events_comes_first(self):
        rows = [HEAD, "if a < 3", "skip", "else", "if a < 6", "skip", "skip", "skip", "end", "end"]
        self.assertEqual(make_suite(program_of(*rows)), [(3,), (0,), (6,)])

    def test_each_event_counts_once(self):
        # With a > 5 the while makes three turns, with fewer events of its own than the other way.
        rows = [HEAD, "let i = 0", "if a > 5", "while i < 3 at most 4", "i = i + 1", "end", "else"]
        rows += ["skip"] * 8 + ["end"]
        program = program_of(*rows)
        sizes = [(len(way.events), len(set(way.events))) for way in survey_program(program)]
        self.assertEqual(sizes, [(17, 10), (11, 11)])
        self.assertEqual(make_suite(program), [(0,), (6,)])

    def test_events_that_are_reached_already_do_not_count(self):
        rows = [HEAD, "if a < 3", *["skip"] * 6, "if a == 1", "skip", "skip", "end", "else", *["skip"] * 3, "end"]
        # Behind (1,), the way of 0 has one event that is not reached yet, and that of 3 four.
        self.assertEqual(make_suite(program_of(*rows)), [(1,), (3,), (0,)])

    def test_some_are_left_out(self):
        for program in CHOOSING:
            added = added_inputs(survey_program(program))
            suite = make_suite(program)
            self.assertLess(len(suite), len(added))
            self.assertEqual([inputs for inputs in added if inputs in suite], suite)

    def test_the_last_are_looked_at_first(self):
        for program in CHOOSING[-4:]:
            all_events = reachable(survey_program(program))
            added = added_inputs(survey_program(program))
            other_way = thinned(added[::-1], lambda rest: reached(program, rest) == all_events)[::-1]
            self.assertNotEqual(make_suite(program), other_way)

    def test_again_behind_a_change_to_the_list(self):
        program = program_of(*PAIR, "if a > b + 2", "answer a + 1", "end", "check b == 5")
        suite = make_suite(program)
        kept = list(suite)
        suite.clear()
        self.assertEqual(make_suite(program), kept)
        make_suite(program).reverse()
        self.assertEqual(make_suite(program), kept)
        text = write_program(program)
        self.assertTrue(program.same(read_program(text)))

    def test_refusals(self):
        for make in (make_suite, unreachable):
            check_refusals(self, make)
            with self.assertRaises(TooWide):
                make(program_of(*checks_of(4096)))
        self.assertEqual(make_suite(program_of(*checks_of(4095))), [(0,)])


class UnreachableTest(unittest.TestCase):

    def test_a_small_one(self):
        rows = [HEAD, "list xs 3 = 0", "check a < 5", "while a > 9 at most 1", "skip", "end", "answer xs[1]"]
        program = program_of(*rows)
        found = unreachable(program)
        self.assertEqual([atom for atom, paper in found], [
            ("fault", 4, "turns"), ("fault", 7, "index"), ("row", 5), ("turn", 4, 1), ("yes", 4)])
        for atom, paper in found:
            self.assertEqual(paper.subject, ("place", " ".join(str(part) for part in atom)))
            self.assertEqual(paper.text, write_program(program))
            self.assertEqual(paper.verdict, ("none",))

    def test_all_is_reached(self):
        self.assertEqual(unreachable(program_of(HEAD, "check a < 5", "answer a")), [])
        self.assertEqual(unreachable(program_of(HEAD, "skip")), [])

    def test_just_the_atoms_that_no_run_meets(self):
        some = 0
        for program in PROGRAMS:
            met = {event for run in runs_of(program).values() for event in run.events}
            found = unreachable(program)
            self.assertIsInstance(found, list)
            atoms = [atom for atom, paper in found]
            self.assertEqual(atoms, [atom for atom in standing(program) if atom not in met])
            self.assertEqual(atoms, sorted(atoms))
            some += len(atoms)
        self.assertGreater(some, 100)

    def test_the_papers(self):
        for program in PROGRAMS:
            for told in unreachable(program):
                self.assertIsInstance(told, tuple)
                atom, paper = told
                self.assertIsInstance(paper, Paper)
                for held in (paper.subject, paper.verdict, paper.tokens):
                    self.assertIsInstance(held, tuple)
                self.assertEqual(paper.verdict, ("none",))
                self.assertTrue(check_paper(program, (atom,), paper))
                self.assertTrue(check_paper(program, (atom,), read_paper(write_paper(paper))))
                kinds = [token[0] for token in find_least(program, (atom,)).tokens]
                self.assertEqual([token[0] for token in paper.tokens], kinds)

    def test_again_behind_a_change_to_the_list(self):
        program = program_of(HEAD, "answer a", "check a < 5")
        first = unreachable(program)
        atoms = [atom for atom, paper in first]
        self.assertEqual(atoms, [("fault", 3, "check"), ("no", 3), ("row", 3), ("yes", 3)])
        first.clear()
        self.assertEqual([atom for atom, paper in unreachable(program)], atoms)


if __name__ == "__main__":
    unittest.main()
