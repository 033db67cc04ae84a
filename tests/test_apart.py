import random
import unittest

from samples import (
    LATER, SMALL, TOO_LONG, all_inputs, check_refusals, checks_of, counting_program, few_inputs, program_of,
    random_programs, unlike)
from wayorring.apart import PairWalk, check_apart, score_changes, strong_suite, tell_apart
from wayorring.changes import list_changes
from wayorring.checker import follow
from wayorring.errors import BadInput, BadPair, BadProgram, TooLong, TooWide
from wayorring.meaning import run_program
from wayorring.papers import Paper, read_paper, write_paper
from wayorring.reader import read_program
from wayorring.suite import make_suite
from wayorring.writer import write_program

HEAD = "input a from 0 to 9"
PAIR = [HEAD, "input b from 0 to 9"]
ON, OVER = ("on",), ("over",)
PROGRAMS = [read_program(text) for text in SMALL] + few_inputs(random_programs(20, 50000), 100)
# In the last four it counts that the inputs found so far are looked at before the next search.
PROGRAMS += [counting_program(seed) for seed in (*range(22), 120, 259, 451, 999)]


def are_told_apart(first, second, inputs):
    return unlike(run_program(first, inputs).outcome, run_program(second, inputs).outcome)


def least_apart(first, second):
    """The verdict that all inputs, tried one by one, make right."""
    for inputs in all_inputs(first):
        if are_told_apart(first, second, inputs):
            return ("found", tuple(inputs))
    return ("none",)


def pairs():
    """Pairs of programs that can be compared: programs with some of their changes, and programs by chance."""
    for number, program in enumerate(PROGRAMS):
        for change in list_changes(program)[number % 3::4]:
            yield program, change.program
    for program in PROGRAMS:
        others = [other for other in PROGRAMS if other.unknowns == program.unknowns and other is not program]
        for other in others[:3]:
            yield program, other


class TellApartTest(unittest.TestCase):

    def verdict(self, first, second, head=(HEAD,)):
        return tell_apart(program_of(*head, *first), program_of(*head, *second)).verdict

    def test_small_ones(self):
        for first, second, inputs in (
            (["answer a"], ["if a == 7", "answer 0", "end", "answer a"], (7,)),
            (["check a < 3"], ["check a <= 3"], (3,)),
            (["check a < 3"], ["if a >= 4", "refuse odd", "end"], (3,)), (["answer a"], ["skip"], (0,)),
            (["check a != 4"], ["if a == 4", "refuse odd", "end"], (4,)),
            (["refuse odd"], ["skip", "refuse odd"], None),
            (["check a < 3"], ["skip", "check 3 > a"], None), (["answer a + 1"], ["let c = a", "answer c + 1"], None),
            (["answer a"], ["let c = 9", "if a < c", "c = a", "end", "answer c"], None),
            (["skip"], ["skip", "skip"], None),
            (["answer 5"], ["answer a"], (0,)), (["answer 0"], ["answer a"], (1,)),
        ):
            verdict = ("none",) if inputs is None else ("found", inputs)
            self.assertEqual(self.verdict(first, second), verdict, (first, second))
            self.assertEqual(self.verdict(second, first), verdict, (first, second))

    def test_two_inputs(self):
        self.assertEqual(self.verdict(["answer a"], ["answer b"], PAIR), ("found", (0, 1)))
        self.assertEqual(self.verdict(["check a < b"], ["check a <= b"], PAIR), ("found", (0, 0)))
        rows = ["if a > 4 and b > 6", "answer b", "end", "answer 7"]
        self.assertEqual(self.verdict(rows, ["answer 7"], PAIR), ("found", (5, 8)))

    def test_the_paper(self):
        first = read_program("input  a from 0 to 9\ncheck  a<3\nanswer a")
        second = read_program("input b from 0 to 9\nif b>=4\ncheck 1>2\nend\nanswer  b")
        paper = tell_apart(first, second)
        self.assertIsInstance(paper, Paper)
        self.assertEqual(paper.text, "input a from 0 to 9\ncheck a < 3\nanswer a")
        self.assertEqual(paper.subject, (
            "apart", "input b from 0 to 9\nif b >= 4\n  check 1 > 2\nend\nanswer b"))
        self.assertEqual(paper.verdict, ("found", (3,)))
        self.assertEqual([token[0] for token in paper.tokens], [
            "on", "dead", "on", "over", "on", "on", "over", "on", "met"])
        for held in (paper.subject, paper.verdict, paper.verdict[1], paper.tokens, *paper.tokens):
            self.assertIsInstance(held, tuple)
        self.assertEqual(follow(PairWalk(first, second), paper.tokens), [[3]])

    def test_the_verdict_is_right(self):
        found = 0
        for first, second in pairs():
            paper = tell_apart(first, second)
            self.assertEqual(paper.verdict, least_apart(first, second), paper.text + "\n\n" + paper.subject[1])
            self.assertEqual(paper.text, write_program(first))
            self.assertEqual(paper.subject, ("apart", write_program(second)))
            self.assertIs(check_apart(first, second, paper), True)
            self.assertIs(check_apart(first, second, read_paper(write_paper(paper))), True)
            found += paper.verdict != ("none",)
        self.assertGreater(found, 100)

    def test_a_program_and_itself(self):
        for program in PROGRAMS + [read_program(LATER)]:
            paper = tell_apart(program, program)
            self.assertEqual(paper.verdict, ("none",))
            self.assertTrue(check_apart(program, program, paper))

    def test_conditions_that_are_written_in_another_way(self):
        rows = PAIR + ["if {}", "answer 1", "end", "if {}", "answer 2", "end", "answer 3"]
        first = "\n".join(rows).format("a < b and not b == 4", "a > 5 or b >= 3")
        second = "\n".join(rows).format("not (a >= b or b == 4)", "not (3 > b and a <= 5)")
        paper = tell_apart(read_program(first), read_program(second))
        self.assertEqual(paper.verdict, ("none",))
        self.assertTrue(check_apart(read_program(first), read_program(second), paper))

    def test_pairs_that_cannot_be_compared(self):
        first = program_of(*PAIR, "skip")
        for rows in (
            [HEAD], [HEAD, "input b from 0 to 8"], [HEAD, "input b from 1 to 9"], PAIR + ["input c from 0 to 9"],
            ["input xs list 3 from 0 to 9"], ["input a from -1 to 9", PAIR[1]], ["input xs list 1 from 0 to 9"],
        ):
            second = program_of(*rows, "skip")
            for one, other in ((first, second), (second, first)):
                with self.assertRaises(BadPair):
                    tell_apart(one, other)
                paper = Paper(write_program(one), ("apart", write_program(other)), ("none",), (OVER,))
                self.assertIs(check_apart(one, other, paper), False)
        swapped = program_of("input a from 0 to 9", "input b from 1 to 5", "skip")
        with self.assertRaises(BadPair):
            tell_apart(swapped, program_of("input b from 1 to 5", "input a from 0 to 9", "skip"))

    def test_a_list_in_the_place_of_plain_inputs(self):
        first = program_of(*PAIR, "answer b")
        second = program_of("input xs list 2 from 0 to 9", "answer xs[1]")
        third = program_of("input xs list 1 from 0 to 9", "input q from 0 to 9", "answer xs[0]")
        self.assertEqual(tell_apart(first, second).verdict, ("none",))
        self.assertEqual(tell_apart(second, third).verdict, ("found", (0, 1)))
        self.assertTrue(check_apart(first, second, tell_apart(first, second)))

    def test_refusals(self):
        good, bad, worse = program_of(*PAIR, "skip"), program_of(HEAD, "b = 3"), program_of(HEAD, "skip", "answer b")
        long = TOO_LONG
        for first, second, row in (
            (bad, worse, 2), (worse, bad, 3), (good, worse, 3), (worse, good, 3), (bad, long, 2),
        ):
            with self.assertRaises(BadProgram) as caught:
                tell_apart(first, second)
            self.assertEqual(caught.exception.row, row)
        for first, second in ((long, bad), (long, good), (good, long), (long, long)):
            with self.assertRaises(TooLong):
                tell_apart(first, second)
        wide = program_of(*checks_of(4096))
        with self.assertRaises(BadPair):
            tell_apart(wide, good)
        with self.assertRaises(BadPair):
            tell_apart(good, wide)
        with self.assertRaises(TooWide):
            tell_apart(wide, program_of(HEAD, "skip"))
        with self.assertRaises(TooWide):
            tell_apart(program_of(HEAD, "skip"), wide)

    def test_the_number_of_ends(self):
        paper = tell_apart(program_of(*checks_of(4093)), program_of(HEAD, "answer 5"))
        self.assertEqual(paper.verdict, ("found", (0,)))
        self.assertEqual(len([token for token in paper.tokens if token != ON]), 4096)
        with self.assertRaises(TooWide):
            tell_apart(program_of(*checks_of(4094)), program_of(HEAD, "answer 5"))

    def test_again_and_unchanged(self):
        papers = [(first, second, tell_apart(first, second)) for first, second in list(pairs())[::9]]
        for first, second, paper in papers:
            texts = write_program(first), write_program(second)
            self.assertTrue(tell_apart(first, second).same(paper))
            self.assertEqual((write_program(first), write_program(second)), texts)


class CheckApartTest(unittest.TestCase):

    def setUp(self):
        self.first = program_of(HEAD, "check a < 3", "answer a")
        self.second = program_of(HEAD, "check a <= 3", "answer a")
        # a < 3, then a <= 3 or dead, and the answers are equal without a question; a >= 3, then a <= 3, or a > 3.
        self.tokens = (ON, ON, OVER, ("dead", (2, 3)), ON, ON, ("met", ((2,),)), ON, OVER)

    def check(self, right, verdict, tokens):
        paper = Paper(write_program(self.first), ("apart", write_program(self.second)), verdict, tuple(tokens))
        self.assertIs(check_apart(self.first, self.second, paper), right, (verdict, tokens))

    def test_a_paper_made_by_hand(self):
        self.check(True, ("found", (3,)), self.tokens)
        self.check(True, ("found", (3,)), self.tokens[:3] + (("dead", (3, 2)),) + self.tokens[4:])

    def test_verdicts(self):
        self.check(False, ("none",), self.tokens)
        for inputs in ((2,), (4,), (), (3, 3), (10,), (-1,)):
            self.check(False, ("found", inputs), self.tokens)

    def test_a_found_input_that_is_too_great(self):
        self.first, self.second = program_of(HEAD, "answer a"), program_of(HEAD, "check a < 5", "answer a")
        self.check(True, ("found", (5,)), (ON, OVER, ON, ("met", ((2,),))))
        self.check(False, ("found", (6,)), (ON, OVER, ON, ("met", ((2,),))))
        self.check(False, ("found", (5,)), (ON, OVER, ON, ("met", ((1,),))))

    def test_spoilt_tokens(self):
        tokens = self.tokens
        for at in range(len(tokens)):
            self.check(False, ("found", (3,)), tokens[:at] + tokens[at + 1:])
            self.check(False, ("found", (3,)), tokens[:at])
            for other in (
                ON, OVER, ("dead", (0, 1)), ("dead", ()), ("met", ((1,),)), ("met", ()), ("met", ((2,), (2,))),
            ):
                self.check(False, ("found", (3,)), tokens[:at] + (other,) + tokens[at:])
                if other != tokens[at]:
                    self.check(False, ("found", (3,)), tokens[:at] + (other,) + tokens[at + 1:])
        self.check(False, ("found", (3,)), ())
        self.check(False, ("none",), ())

    def test_an_end_told_as_met(self):
        self.first, self.second = program_of(HEAD, "check a < 3"), program_of(HEAD, "check a < 3 and a < 3")
        paper = tell_apart(self.first, self.second)
        self.check(True, ("none",), paper.tokens)
        at = paper.tokens.index(OVER)
        self.check(False, ("none",), paper.tokens[:at] + (("met", ((1,),)),) + paper.tokens[at + 1:])

    def test_a_dead_way_that_is_gone_on_with(self):
        # Behind the dead way the first program has answered, and the second has made a fault: met.
        met = ("met", ((1,),))
        self.check(False, ("found", (3,)), self.tokens[:3] + (ON, OVER) + self.tokens[4:])
        self.check(False, ("found", (3,)), self.tokens[:3] + (ON, met) + self.tokens[4:])
        self.check(True, ("found", (3,)), self.tokens[:3] + (ON, ("met", ((3,),))) + self.tokens[4:])
        self.first, self.second = program_of(HEAD, "skip"), program_of(HEAD, "check a >= 0")
        self.check(True, ("none",), (ON, OVER, ("dead", (1, 2))))
        self.check(False, ("none",), (ON, OVER, ON, met))
        self.check(False, ("none",), (ON, OVER, ON, OVER))

    def test_the_two_exchanged(self):
        exchanged = 0
        for first, second in pairs():
            paper = tell_apart(first, second)
            if not first.same(second):
                self.assertIs(check_apart(second, first, paper), False)
                turned = Paper(paper.subject[1], ("apart", paper.text), paper.verdict, paper.tokens)
                if turned.tokens == tell_apart(second, first).tokens:
                    self.assertTrue(check_apart(second, first, turned))
                exchanged += 1
        self.assertGreater(exchanged, 100)

    def test_another_program(self):
        paper = tell_apart(self.first, self.second)
        self.assertTrue(check_apart(self.first, self.second, paper))
        other = program_of(HEAD, "check a <= 4", "answer a")
        self.assertIs(check_apart(self.first, other, paper), False)
        self.assertIs(check_apart(other, self.second, paper), False)
        self.assertIs(check_apart(self.first, self.first, paper), False)
        for text, subject in (
            (paper.text + " ", paper.subject), (paper.text, ("apart", paper.subject[1] + "\n")),
            (paper.text, ("place", paper.subject[1])), (paper.text, ("apart", paper.text)),
            (paper.subject[1], ("apart", paper.text)), (paper.text, ("apart", "")),
        ):
            changed = Paper(text, subject, paper.verdict, paper.tokens)
            self.assertIs(check_apart(self.first, self.second, changed), False)

    def test_programs_that_are_not_good(self):
        good, bad, long = program_of(HEAD, "skip"), program_of(HEAD, "b = 3"), TOO_LONG
        for first, second in ((good, bad), (bad, good), (bad, bad), (good, long), (long, good), (long, long)):
            paper = Paper(write_program(first), ("apart", write_program(second)), ("none",), (OVER,))
            self.assertIs(check_apart(first, second, paper), False)
        self.assertTrue(check_apart(good, good, Paper(
            write_program(good), ("apart", write_program(good)), ("none",), (OVER,))))

    def test_rings_that_begin_at_another_of_their_numbers(self):
        for first, second in list(pairs())[::3]:
            paper = tell_apart(first, second)
            tokens = tuple(
                (token[0], token[1][1:] + token[1][:1]) if token[0] == "dead" else token for token in paper.tokens)
            self.assertTrue(check_apart(first, second, Paper(paper.text, paper.subject, paper.verdict, tokens)))

    def test_the_paper_is_unchanged(self):
        for first, second in list(pairs())[::9]:
            paper = tell_apart(first, second)
            told = write_paper(paper)
            check_apart(first, second, paper)
            self.assertEqual(write_paper(paper), told)


class ScoreTest(unittest.TestCase):

    def test_a_small_one(self):
        program = program_of(HEAD, "check a < 3", "answer a")
        self.assertEqual([(change.row, change.kind) for change in list_changes(program)], [
            (2, "edge"), (2, "turned"), (2, "out"), (3, "more"), (3, "less")])
        for inputs, scores in (
            ([], [0, 0, 0, 0, 0]), ([[0]], [0, 1, 0, 1, 1]), ([[3]], [1, 1, 1, 0, 0]), ([[4]], [0, 1, 1, 0, 0]),
            ([[4], [2]], [0, 1, 1, 1, 1]), ([[3], [2]], [1, 1, 1, 1, 1]),
        ):
            expected = [bool(score) for score in scores]
            self.assertEqual(score_changes(program, inputs), expected)
            self.assertEqual(score_changes(program, [tuple(each) for each in inputs]), expected)

    def test_just_those_that_are_told_apart(self):
        chance = random.Random(4)
        for program in PROGRAMS:
            inputs = chance.sample(all_inputs(program), min(4, len(all_inputs(program))))
            for given in (inputs, [tuple(each) for each in inputs], inputs[:1], []):
                scores = score_changes(program, given)
                expected = [
                    any(are_told_apart(program, change.program, each) for each in given)
                    for change in list_changes(program)]
                self.assertIsInstance(scores, list)
                self.assertEqual(scores, expected)
                self.assertEqual([score for score in scores if score is not True and score is not False], [])

    def test_no_changes(self):
        self.assertEqual(score_changes(program_of(HEAD, "skip"), [[3], [4]]), [])

    def test_the_inputs_are_unchanged(self):
        program = program_of(HEAD, "check a < 3", "answer a")
        inputs = [[3], (2,), [0]]
        scores = score_changes(program, inputs)
        self.assertEqual(inputs, [[3], (2,), [0]])
        scores.clear()
        self.assertEqual(len(score_changes(program, inputs)), 5)

    def test_refusals(self):
        program = program_of(*PAIR, "check a < 3", "answer b")
        for inputs in (
            [[0]], [[0, 0], [0]], [[0, 0], [0, 10]], [[-1, 0]], [[0, 0, 0]], [[]], [[3, 3], [3, 3], [3, -1]], [(0,)],
        ):
            with self.assertRaises(BadInput):
                score_changes(program, inputs)
        with self.assertRaises(BadInput):
            score_changes(program_of(HEAD, "skip"), [[10]])
        for inputs in ([], [[3]], [[30]]):
            check_refusals(self, lambda bad: score_changes(bad, inputs))


class StrongSuiteTest(unittest.TestCase):

    def events(self, program, suite):
        return {event for inputs in suite for event in run_program(program, inputs).events}

    def holds_all(self, program, changes, suite, whole):
        """Whether the inputs reach all that the whole list reaches, and tell apart all that it tells apart."""
        if self.events(program, suite) != self.events(program, whole):
            return False
        for change in changes:
            if any(are_told_apart(program, change.program, inputs) for inputs in whole):
                if not any(are_told_apart(program, change.program, inputs) for inputs in suite):
                    return False
        return True

    def test_just_this_list(self):
        longer = left_out = 0
        for program in PROGRAMS:
            changes = list_changes(program)
            suite = make_suite(program)
            first = len(suite)
            for change in changes:
                if not any(are_told_apart(program, change.program, inputs) for inputs in suite):
                    verdict = least_apart(program, change.program)
                    suite = suite + [verdict[1]] if verdict[0] == "found" else suite
            whole = suite
            for at in reversed(range(len(suite))):
                rest = suite[:at] + suite[at + 1:]
                if self.holds_all(program, changes, rest, whole):
                    suite = rest
            strong = strong_suite(program)
            self.assertIsInstance(strong, list)
            self.assertEqual(strong, suite, write_program(program))
            longer += len(whole) > first
            left_out += len(suite) < len(whole)
        self.assertGreater(longer, 10)
        self.assertGreater(left_out, 5)

    def test_all_that_can_be_is_reached_and_told_apart(self):
        for program in PROGRAMS:
            strong = strong_suite(program)
            every = all_inputs(program)
            self.assertEqual(self.events(program, strong), self.events(program, every))
            scores = score_changes(program, strong)
            self.assertEqual(scores, score_changes(program, every))
            for inputs in strong:
                self.assertIsInstance(inputs, tuple)
                rest = [each for each in strong if each != inputs]
                self.assertTrue(
                    self.events(program, rest) != self.events(program, every) or score_changes(program, rest) != scores)

    def test_a_small_one(self):
        self.assertEqual(make_suite(program_of(HEAD, "check a < 3", "answer a")), [(0,), (3,)])
        self.assertEqual(strong_suite(program_of(HEAD, "check a < 3", "answer a")), [(0,), (3,)])
        # The edge of a > 5 needs 5, the one of a < 3 needs 3; the answers need no more.
        program = program_of(HEAD, "if a > 5", "answer 1", "end", "if a < 3", "answer 2", "end", "answer 3")
        self.assertEqual(make_suite(program), [(0,), (6,), (3,)])
        self.assertEqual(strong_suite(program), [(0,), (6,), (3,), (5,)])

    def test_again_behind_a_change_to_the_list(self):
        program = program_of(HEAD, "if a > 5", "answer 1", "end", "check a < 3", "answer 3")
        strong = strong_suite(program)
        kept = list(strong)
        strong.clear()
        self.assertEqual(strong_suite(program), kept)

    def test_refusals(self):
        check_refusals(self, strong_suite)
        with self.assertRaises(TooWide):
            strong_suite(program_of(*checks_of(4096)))

    def test_a_search_that_is_too_wide(self):
        # The survey has few enough ends, but the tree of the program and one of its changes has more.
        rows = checks_of(3000)
        self.assertEqual(make_suite(program_of(*rows)), [(0,)])
        with self.assertRaises(TooWide):
            strong_suite(program_of(*rows))

    def test_it_searches_only_where_it_has_to(self):
        # The suite tells all changes apart; a search for any of them would be too wide.
        rows = PAIR + ["def part(c, a, b)", "let j = 0", "while j < 7 at most 8", "j = j + 1"]
        rows += ["if a >= 0 and b >= 0 and a >= 0 and b >= 0 and a >= 0 and a < 5", "c = c + 1", "end"] * 6
        rows += ["end", "return c", "end", "let c = 0", "let i = 0", "while i < 8 at most 8", "c = part(c, a, b)"]
        program = program_of(*rows, "i = i + 1", "end", "answer c")
        with self.assertRaises(TooWide):
            tell_apart(program, list_changes(program)[0].program)
        self.assertEqual(strong_suite(program), [(0, 0), (5, 0)])
        self.assertEqual(set(score_changes(program, [(0, 0), (5, 0)])), {True})


if __name__ == "__main__":
    unittest.main()
