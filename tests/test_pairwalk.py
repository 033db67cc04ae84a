import unittest

from samples import SMALL, Tree, all_inputs, events_of, few_inputs, program_of, random_programs, unlike
from wayorring.apart import PairWalk
from wayorring.changes import list_changes
from wayorring.chains import keeps
from wayorring.checker import follow
from wayorring.formrun import FormRun
from wayorring.meaning import run_program
from wayorring.reader import read_program
from wayorring.search import explore

HEAD = "input a from -4 to 9"
PAIR = [HEAD, "input b from 0 to 5"]
RANGES = [(1, 0, 9), (0, 1, 4)]
PROGRAMS = [read_program(text) for text in SMALL] + few_inputs(random_programs(40, 40000), 100)


def go(walk, *takes):
    """Goes on by these ways; the word at the end."""
    for take in takes:
        assert walk.advance() == "ask"
        walk.take(take)
    return walk.advance()


def walk_of(first, second, head=(HEAD,)):
    return PairWalk(program_of(*head, *first), program_of(*head, *second))


class PairWalkTest(unittest.TestCase):

    def test_the_beginning(self):
        walk = PairWalk(program_of(*PAIR, "skip"), program_of("input xs list 1 from -4 to 9", PAIR[1], "answer xs[0]"))
        self.assertEqual(walk.many, 2)
        self.assertEqual(walk.differences, RANGES + [(2, 0, 5), (0, 2, 0)])
        self.assertIsInstance(walk.run, FormRun)
        self.assertEqual(walk.run.events, [])

    def test_the_first_run_and_then_the_second(self):
        walk = walk_of(["check a < 3", "skip"], ["skip", "if a > 5", "skip", "end", "check a < 3"])
        first = walk.run
        self.assertEqual(walk.advance(), "ask")
        self.assertEqual(walk.ways(), [((1, 0, 2),), ((0, 1, -3),)])
        self.assertIs(walk.run, first)
        self.assertEqual(first.events, events_of("r2"))
        walk.take(0)
        self.assertIs(walk.run, first)
        self.assertEqual(walk.differences, RANGES + [(1, 0, 2)])
        self.assertEqual(walk.advance(), "ask")
        self.assertIsNot(walk.run, first)
        self.assertEqual(first.events, events_of("r2 y2 r3"))
        self.assertEqual(first.outcome, ("end",))
        self.assertEqual(walk.run.events, events_of("r2 r3"))
        self.assertEqual(walk.ways(), [((0, 1, -6),), ((1, 0, 5),)])
        walk.take(1)
        self.assertEqual(walk.differences, RANGES + [(1, 0, 2), (1, 0, 5)])
        self.assertEqual(go(walk, 0), "over")
        self.assertEqual(walk.differences, RANGES + [(1, 0, 2), (1, 0, 5), (1, 0, 2)])
        self.assertEqual(walk.run.events, events_of("r2 r3 n3 r6 y6"))
        self.assertEqual(walk.run.outcome, ("end",))

    def test_the_first_run_stays_until_it_is_gone_on_behind_its_end(self):
        walk = walk_of(["check a < 3"], ["answer 4"])
        first = walk.run
        walk.advance()
        walk.take(1)
        self.assertIs(walk.run, first)
        self.assertEqual(walk.advance(), "met")
        self.assertEqual(walk.run.outcome, ("answer", (0, 4)))
        self.assertEqual(first.outcome, ("fault", 2, "check"))

    def test_answers(self):
        for one, other, ways in (
            ("answer a", "answer 3", [((1, 0, 2),), ((0, 1, -4),), ((1, 0, 3), (0, 1, -3))]),
            ("answer 3", "answer a", [((0, 1, -4),), ((1, 0, 2),), ((0, 1, -3), (1, 0, 3))]),
            ("answer a + 2", "answer b - 1", [((1, 2, -4),), ((2, 1, 2),), ((1, 2, -3), (2, 1, 3))]),
        ):
            for number, word in enumerate(["met", "met", "over"]):
                walk = walk_of([one], [other], PAIR)
                before = list(walk.differences)
                self.assertEqual(walk.advance(), "ask")
                self.assertEqual(walk.ways(), ways)
                self.assertEqual(walk.run.outcome[0], "answer")
                walk.take(number)
                self.assertEqual(walk.differences, before + list(ways[number]))
                self.assertEqual(walk.advance(), word)
                self.assertEqual(walk.advance(), word)

    def test_answers_that_are_compared_without_a_question(self):
        for one, other, word in (
            ("answer a", "answer a", "over"), ("answer a", "answer a + 1", "met"), ("answer 3", "answer 3", "over"),
            ("answer 3", "answer 4", "met"), ("answer 0", "answer 0", "over"),
        ):
            self.assertEqual(go(walk_of([one], [other])), word)

    def test_outcomes(self):
        told = {
            "answer": ["answer 3"], "end": ["skip"], "odd": ["refuse odd"], "odd below": ["skip", "skip", "refuse odd"],
            "check": ["check 1 > 2"], "index": ["list xs 2 = 0", "answer xs[2]"], "range": ["let c from 0 to 1 = 2"],
            "turns": ["while 1 < 2 at most 1", "end"], "bad": ["refuse bad"],
            "check below": ["skip", "check 1 > 2"],
        }
        alike = {("odd", "odd below"), ("odd below", "odd"), ("check", "check below"), ("check below", "check")}
        for one, first in told.items():
            for other, second in told.items():
                expected = "over" if one == other or (one, other) in alike else "met"
                walk = walk_of(first, second)
                self.assertEqual(go(walk), expected, (one, other))
                self.assertEqual(walk.advance(), expected)

    def test_advance_again_without_a_take(self):
        walk = walk_of(["check a < 3", "answer a"], ["check a < 5", "answer 1"])
        for take in (0, 0, 2):
            for _ in range(3):
                self.assertEqual(walk.advance(), "ask")
                shown = list(walk.differences), list(walk.run.events), walk.ways()
                self.assertEqual(walk.advance(), "ask")
                self.assertEqual((walk.differences, walk.run.events, walk.ways()), shown)
            walk.take(take)
        self.assertEqual([walk.advance() for _ in range(3)], ["over"] * 3)

    def test_the_ways_belong_to_the_caller(self):
        walk = walk_of(["answer a"], ["answer 3"])
        walk.advance()
        kept = walk.ways()
        self.assertIsInstance(kept, list)
        for differences in kept:
            self.assertIsInstance(differences, tuple)
        walk.ways().clear()
        self.assertEqual(walk.ways(), kept)

    def test_twins_that_go_apart(self):
        walk = walk_of(["check a < 3", "answer a"], ["check a < 5", "answer 1"])
        twin = walk.twin()
        self.assertIsNot(twin.run, walk.run)
        self.assertEqual(go(walk, 1, 1), "over")
        self.assertEqual((twin.run.events, twin.differences), ([], RANGES))
        self.assertEqual(twin.advance(), "ask")
        other = twin.twin()
        self.assertEqual(other.ways(), twin.ways())
        twin.take(0)
        other.take(1)
        self.assertEqual(twin.differences, RANGES + [(1, 0, 2)])
        self.assertEqual(other.differences, RANGES + [(0, 1, -3)])
        self.assertEqual(twin.advance(), "ask")
        last = twin.twin()
        self.assertEqual(go(other, 0), "met")
        self.assertEqual(other.run.outcome, ("answer", (0, 1)))
        self.assertEqual(go(twin, 0), "ask")
        ended = twin.twin()
        self.assertEqual(ended.ways(), [((1, 0, 0),), ((0, 1, -2),), ((1, 0, 1), (0, 1, -1))])
        twin.take(2)
        ended.take(0)
        self.assertEqual((twin.advance(), ended.advance()), ("over", "met"))
        self.assertEqual((twin.twin().advance(), ended.twin().advance()), ("over", "met"))
        self.assertEqual(go(last, 1), "met")
        self.assertEqual(last.many, 1)
        self.assertEqual(last.differences, RANGES + [(1, 0, 2), (0, 1, -5)])

    def test_a_twin_behind_the_end_of_the_first_run(self):
        walk = walk_of(["refuse odd"], ["check a < 3", "refuse odd"])
        self.assertEqual(walk.advance(), "ask")
        twin = walk.twin()
        walk.take(0)
        twin.take(1)
        self.assertEqual((walk.advance(), twin.advance()), ("over", "met"))

    def test_every_input_goes_one_way_and_finds_its_outcomes(self):
        for program in PROGRAMS[:20]:
            for change in list_changes(program)[::5]:
                walk = PairWalk(program, change.program)
                tree = Tree(program, walk.twin())
                tokens, found, _ = explore(walk.twin())
                self.assertEqual(tree.shown(tokens), tree.tokens)
                self.assertEqual(found, min(tree.least) if tree.least else None)
                self.assertEqual(len(follow(walk, tokens)), len(tree.least))
                ends = [(token[0], ties) for token, ties in zip(tree.tokens, tree.ways) if token[0] in ("met", "over")]
                for inputs in all_inputs(program):
                    words = [word for word, ties in ends if keeps(ties, inputs)]
                    outcomes = [run_program(each, inputs).outcome for each in (program, change.program)]
                    self.assertEqual(words, ["met" if unlike(*outcomes) else "over"])


if __name__ == "__main__":
    unittest.main()
