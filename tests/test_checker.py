import random
import unittest

from samples import SMALL, TOO_LONG, checks_of, few_inputs, program_of, random_programs, some_places
from wayorring.checker import check_paper, follow
from wayorring.checks import check_program
from wayorring.papers import Paper, read_paper, write_paper
from wayorring.places import read_place, standing, write_place
from wayorring.reader import read_program
from wayorring.search import explore, find_least
from wayorring.walks import PlaceWalk
from wayorring.writer import write_program

HEAD = "input a from 0 to 9"
PAIR = [HEAD, "input b from 0 to 9"]
ON, OVER = ("on",), ("over",)
PROGRAMS = [read_program(text) for text in SMALL] + few_inputs(random_programs(60, 9000), 150)


class Case(unittest.TestCase):

    def use(self, rows, text):
        """The program and the place that are looked at from here on."""
        self.program = program_of(*rows)
        check_program(self.program)
        self.place = read_place(text)

    def paper(self, verdict, tokens):
        return Paper(write_program(self.program), ("place", write_place(self.place)), verdict, tuple(tokens))

    def accepted(self, verdict, *tokens):
        self.assertIs(check_paper(self.program, self.place, self.paper(verdict, tokens)), True, (verdict, tokens))

    def refused(self, verdict, *tokens):
        self.assertIs(check_paper(self.program, self.place, self.paper(verdict, tokens)), False, (verdict, tokens))


class SearchedTest(Case):
    """Papers that a search gives, and what becomes of them when they are spoilt."""

    def papers(self, seed, most=400):
        """Papers of several places of each program, with so many tokens at the most."""
        for number, program in enumerate(PROGRAMS):
            places = [(atom,) for atom in standing(program)[number::9]] + some_places(program, 3, seed + number)
            for place in places:
                paper = find_least(program, place)
                if len(paper.tokens) <= most:
                    yield program, place, paper

    def test_they_are_accepted(self):
        for program, place, paper in self.papers(100):
            told = (paper.text, paper.subject, paper.verdict, paper.tokens)
            self.assertIs(check_paper(program, place, paper), True)
            self.assertIs(check_paper(program, place, read_paper(write_paper(paper))), True)
            self.assertEqual((paper.text, paper.subject, paper.verdict, paper.tokens), told)

    def test_rings_that_begin_at_another_of_their_numbers(self):
        turned = 0
        for program, place, paper in self.papers(200):
            tokens = []
            for token in paper.tokens:
                if token[0] == "dead":
                    turned += len(token[1]) > 1
                    token = ("dead", token[1][1:] + token[1][:1])
                tokens.append(token)
            self.assertTrue(check_paper(program, place, Paper(paper.text, paper.subject, paper.verdict, tuple(tokens))))
        self.assertGreater(turned, 50)

    def test_a_token_too_few_or_too_many(self):
        for program, place, paper in self.papers(300, 25):
            for at in range(len(paper.tokens) + 1):
                rest = paper.tokens[:at], paper.tokens[at:]
                changed = [rest[0] + (token,) + rest[1] for token in (ON, OVER, ("dead", (0,)), ("met", ((1,),)))]
                changed.append(rest[0] + rest[1][1:] if rest[1] else ())
                changed.append(rest[0])
                for tokens in changed:
                    self.spoilt(program, place, paper, tokens)

    def test_a_token_of_another_kind(self):
        for program, place, paper in self.papers(400, 40):
            for at, token in enumerate(paper.tokens):
                for other in (ON, OVER, ("dead", (0,)), ("met", ((1,),)), ("met", ((1,), (3,), (5,)))):
                    if other[0] != token[0]:
                        self.spoilt(program, place, paper, paper.tokens[:at] + (other,) + paper.tokens[at + 1:])

    def test_tokens_that_are_exchanged(self):
        for program, place, paper in self.papers(500, 60):
            tokens = paper.tokens
            for at in range(len(tokens) - 1):
                if tokens[at][0] != tokens[at + 1][0]:
                    changed = tokens[:at] + (tokens[at + 1], tokens[at]) + tokens[at + 2:]
                    self.spoilt(program, place, paper, changed)

    def test_another_verdict(self):
        for program, place, paper in self.papers(600):
            verdicts = [("none",)]
            if paper.verdict[0] == "found":
                inputs = paper.verdict[1]
                for k in range(len(inputs)):
                    verdicts += [("found", inputs[:k] + (inputs[k] + step,) + inputs[k + 1:]) for step in (-1, 1)]
                verdicts += [("found", inputs + (0,)), ("found", inputs[1:])]
            else:
                verdicts = [("found", tuple(bounds[side] for bounds in program.unknowns)) for side in (0, 1)]
            for verdict in verdicts:
                self.assertIs(
                    check_paper(program, place, Paper(paper.text, paper.subject, verdict, paper.tokens)), False)

    def test_another_program_or_place(self):
        papers = list(self.papers(700))
        for program, place, paper in papers[::7]:
            for other, there, wrong in papers[::11]:
                right = program.same(other) and place == there
                self.assertIs(check_paper(program, place, wrong), right)

    def spoilt(self, program, place, paper, tokens):
        if tokens != paper.tokens:
            changed = Paper(paper.text, paper.subject, paper.verdict, tokens)
            self.assertIs(check_paper(program, place, changed), False, (write_program(program), place, tokens))


class HandmadeTest(Case):

    def test_tokens(self):
        self.use([HEAD, "if a > 4", "check a != 7", "end", "answer a"], "fault 3 check")
        met = ("met", ((4,),))
        right = [ON, ON, OVER, ON, OVER, ON, met, ON, OVER]
        self.accepted(("found", (7,)), *right)
        self.refused(("found", (7,)))
        self.refused(("none",))
        self.refused(("found", (7,)), *right[:-1])
        self.refused(("found", (7,)), *right, OVER)
        self.refused(("found", (7,)), *right, ON)
        self.refused(("found", (7,)), *right[:6], OVER, *right[7:])
        self.refused(("none",), *right[:6], OVER, *right[7:])
        self.refused(("found", (7,)), ON, ON, OVER, ON, met, ON, OVER, ON, OVER)
        self.refused(("found", (7,)), *right[7:], *right[:7])
        self.refused(("found", (7,)), *right[:2], met, *right[3:])
        self.refused(("found", (7,)), *right[:6], *right[7:])

    def test_one_token(self):
        self.use([HEAD, "answer a", "skip"], "row 3")
        self.accepted(("none",), OVER)
        for tokens in ((), (ON,), (ON, OVER), (OVER, OVER), (("dead", (0,)),), (("met", ((1,),)),)):
            self.refused(("none",), *tokens)
        self.refused(("found", (0,)), OVER)
        self.use([HEAD, "answer a"], "row 2")
        self.accepted(("found", (0,)), ("met", ((1,),)))
        for tokens in ((), (ON,), (OVER,), (("met", ((1,),)), OVER), (("met", ((1,),)), ("met", ((1,),)))):
            self.refused(("found", (0,)), *tokens)

    def test_rings(self):
        self.use([HEAD, "check a <= 5", "check a < 7", "answer a"], "no 3")
        # On the dead way stand (1, 0, 9), (0, 1, 0), (1, 0, 5), (0, 1, -7); behind it ring (2, 3).
        tokens = [ON, ON, OVER, None, ON, OVER]
        for ring in ((2, 3), (3, 2), (2, 3, 2, 3), (3, 2, 3, 2), (0, 3, 2, 3, 2, 3), (2, 3, 2, 1, 2, 3, 2, 3, 2, 3)):
            tokens[3] = ("dead", ring)
            self.accepted(("none",), *tokens)
        for ring in (
            (), (2,), (3,), (2, 3, 2), (2, 2), (3, 3), (0, 1), (2, 1), (0, 3), (3, 0), (2, 4), (4,), (2, -1), (-1, -2),
            (-2, -1), (2, 3, 4), (99, 3), (2, 10 ** 20), (-10 ** 20, 3), (2, 1, 2, 3), (-4, 3, 2, 3), (0, 3, 2, 3),
        ):
            tokens[3] = ("dead", ring)
            self.refused(("none",), *tokens)

    def test_a_ring_needs_a_sum_below_zero(self):
        self.use([HEAD, "check a <= 5", "check a < 5", "answer a"], "row 4")
        # (0, 1, -5) stands behind the second way of row 3: (2, 3) has the sum 0, and 5 is left.
        met = ("met", ((1,),))
        self.accepted(("found", (0,)), ON, ON, met, ON, OVER, ON, OVER)
        self.refused(("found", (0,)), ON, ON, met, ("dead", (2, 3)), ON, OVER)
        self.refused(("found", (0,)), ON, ON, met, ("dead", (3, 2)), ON, OVER)
        self.refused(("found", (0,)), ("dead", (0, 1)), ON, OVER)
        self.refused(("none",), ("dead", (0, 1)), ON, OVER)

    def test_a_ring_of_the_differences_of_another_way(self):
        self.use([HEAD, "check a >= 0", "check a >= 0", "answer a"], "fault 3 check")
        dead = ("dead", (1, 2))
        self.accepted(("none",), ON, ON, OVER, ("dead", (1, 3)), dead)
        self.refused(("none",), ON, ON, OVER, dead, dead)
        self.refused(("none",), ON, ON, OVER, ("dead", (1, 3)), ("dead", (1, 3)))

    def test_a_way_that_is_not_dead_may_not_be_told_so(self):
        self.use(PAIR + ["check a < b", "answer a"], "row 4")
        met = ("met", ((1,), (3,)))
        self.accepted(("found", (0, 1)), ON, ("met", ((1,), (1, 4))), ON, OVER)
        self.refused(("found", (0, 1)), ON, met, ON, OVER)
        for ring in ((4,), (0, 1), (4, 3, 0), (2, 3), ()):
            self.refused(("none",), ("dead", ring), ON, OVER)
            self.refused(("found", (0, 1)), ON, ("met", ((1,), (1, 4))), ("dead", ring))

    def test_floors(self):
        self.use(PAIR + ["check b > a + 2", "answer b"], "row 4")
        # On the first way stands (1, 2, -3) as number 4.
        right = (1,), (1, 4)
        self.accepted(("found", (0, 3)), ON, ("met", right), ON, OVER)
        for floors in (
            (), ((1,),), ((1, 4),), (right[1], right[0]), right + ((1,),), right + right, ((), (1, 4)), ((1,), ()),
            ((1,), (3,)), ((1,), (1,)), ((3,), (1, 4)), ((0,), (1, 4)), ((1,), (4,)), ((1,), (4, 1)), ((1,), (1, 4, 4)),
            ((1,), (-4, 4)), ((1,), (1, -1)), ((1,), (1, 5)), ((1,), (1, 10 ** 20)), ((-4,), (1, 4)), ((1, 1), (1, 4)),
            ((0, 1), (1, 4)), ((1,), (1, 4, 2)), ((1,), (3, 2, 1, 4, 2)),
        ):
            self.refused(("found", (0, 3)), ON, ("met", floors), ON, OVER)
        self.refused(("none",), ON, ("met", right), ON, OVER)

    def test_found_inputs(self):
        self.use([HEAD, "input b from -5 to 5", "check a == 3 or b == a - 4", "answer b"], "row 4")
        paper = find_least(self.program, self.place)
        self.assertEqual(paper.verdict, ("found", (0, -4)))
        self.accepted(paper.verdict, *paper.tokens)
        for inputs in (
            (0, -3), (0, -5), (1, -3), (3, -5), (3, 5), (0,), (), (0, -4, 0), (-1, -5), (10, 6), (9, 5), (8, 4),
            (-4, 0), (0, -400), (10 ** 20, 0), (-10 ** 20, -10 ** 20),
        ):
            self.refused(("found", inputs), *paper.tokens)

    def test_a_found_input_that_is_too_great_with_floors_that_show_no_more(self):
        self.use([HEAD, "skip"], "row 2")
        self.accepted(("found", (0,)), ("met", ((1,),)))
        for inputs in ((1,), (9,), (-1,), (10,)):
            self.refused(("found", inputs), ("met", ((1,),)))

    def test_floors_that_show_less_than_the_least_values(self):
        self.use([HEAD, "check a == 3 or a == 7", "answer a"], "row 3")
        paper = find_least(self.program, self.place)
        # a == 3; a < 3, then a == 7 (dead), a < 7, a > 7 (dead); a > 3, then a == 7, a < 7, a > 7.
        self.assertEqual([token[0] for token in paper.tokens], [
            "on", "met", "on", "dead", "on", "over", "dead", "on", "on", "met", "on", "over", "on", "over"])
        self.assertEqual(paper.verdict, ("found", (3,)))
        first, second = paper.tokens[:9], paper.tokens[10:]
        for floor, right in (((2,), True), ((4,), True), ((1,), False), ((0, 2), False), ((2, 0, 1), False)):
            told = self.accepted if right else self.refused
            told(("found", (3,)), *first, ("met", (floor,)), *second)
        self.refused(("found", (3,)), *first, OVER, *second)

    def test_floors_of_the_found_point_itself(self):
        self.use(PAIR + ["check a > 3", "skip"], "row 4")
        self.accepted(("found", (4, 0)), ON, ("met", ((4,), (3,))), ON, OVER)
        self.refused(("found", (4, 0)), ON, ("met", ((1,), (3,))), ON, OVER)
        self.refused(("found", (4, 1)), ON, ("met", ((4,), (3,))), ON, OVER)
        self.refused(("found", (5, 0)), ON, ("met", ((4,), (3,))), ON, OVER)

    def test_values_are_compared_as_lists(self):
        rows = [HEAD, "input b from -9 to 9", "if a == 1", "check b > 5", "end", "check a > 0", "check b > 0", "skip"]
        self.use(rows, "row 8")
        paper = find_least(self.program, self.place)
        self.assertEqual(paper.verdict, ("found", (1, 6)))
        shown = follow(PlaceWalk(self.program, self.place), paper.tokens)
        self.assertEqual(shown, [[1, 6], [2, 1]])
        self.accepted(paper.verdict, *paper.tokens)

    def test_a_dead_way_may_be_gone_on_with(self):
        self.use([HEAD, "check a >= 0", "answer a"], "row 3")
        met = ("met", ((1,),))
        self.accepted(("found", (0,)), ON, met, ("dead", (1, 2)))
        self.accepted(("found", (0,)), ON, met, ON, OVER)
        self.refused(("found", (0,)), ON, met, ON, met)
        self.refused(("found", (0,)), ON, met, ON)
        self.refused(("found", (0,)), ON, met, OVER)
        self.refused(("found", (0,)), ON, met, ON, ("dead", (1, 2)))
        self.use([HEAD, "check a >= 0", "answer a"], "fault 2 check")
        self.accepted(("none",), ON, OVER, ("dead", (1, 2)))
        self.refused(("none",), ON, OVER, ON, ("met", ((1,),)))
        self.refused(("none",), ON, OVER, ON, OVER)

    def test_what_stands_behind_a_dead_way(self):
        self.use([HEAD, "check a >= 0 or a > 4", "answer a"], "fault 2 check")
        self.accepted(("none",), ON, OVER, ("dead", (1, 2)))
        self.accepted(("none",), ON, OVER, ON, ON, OVER, ("dead", (1, 2)))
        self.accepted(("none",), ON, OVER, ON, ("dead", (2, 3)), ("dead", (2, 1)))
        self.refused(("none",), ON, OVER, ON, OVER)
        self.refused(("none",), ON, OVER, ON, ("dead", (2, 3)))
        self.refused(("none",), ON, OVER, ON, ("dead", (1, 3)), ("dead", (1, 2)))
        self.use([HEAD, "check a < 10", "skip"], "row 3 then row 2")
        self.accepted(("none",), ON, OVER, ON, OVER)

    def test_where_a_dead_way_meets_the_place(self):
        self.use([HEAD, "if a > 9", "skip", "else", "check a != 4", "end"], "row 3")
        self.accepted(("none",), ("dead", (2, 0)), ON, ON, OVER, ON, OVER, ON, OVER)
        self.refused(("none",), ON, ("met", ((2,),)), ON, ON, OVER, ON, OVER, ON, OVER)
        self.use([HEAD, "check a > 3 or a < 0", "skip"], "row 3")
        met = ("met", ((2,),))
        self.accepted(("found", (4,)), ON, met, ON, ("dead", (3, 1)), ON, OVER)
        # Behind the dead way stand (1, 0, 3) and (1, 0, -1); no floor shows that a is 4 or more there.
        self.refused(("found", (4,)), ON, met, ON, ON, ("met", ((1,),)), ON, OVER)

    def test_a_dead_way_whose_floor_is_high_enough(self):
        self.use([HEAD, "check a > 3", "check a < 2 or a > 3", "skip"], "row 4")
        # On the dead way stand (0, 1, -4) and (1, 0, 1); its floor may show 4.
        met, dead = ("met", ((2,),)), ("dead", (2, 3))
        rest = [ON, ON, met, ("dead", (2, 4)), ON, OVER]
        self.accepted(("found", (4,)), ON, dead, *rest)
        self.accepted(("found", (4,)), ON, ON, met, *rest)
        self.refused(("found", (4,)), ON, ON, ("met", ((1,),)), *rest)
        self.refused(("found", (4,)), ON, ON, OVER, *rest)

    def test_another_text_or_subject(self):
        self.use([HEAD, "check a > 3", "answer a"], "row 3")
        right = self.paper(("found", (4,)), (ON, ("met", ((2,),)), ON, OVER))
        self.assertTrue(check_paper(self.program, self.place, right))
        for text in ("", right.text + "\n", right.text.replace(">", ">="), right.text.replace(" ", "  "), "skip"):
            paper = Paper(text, right.subject, right.verdict, right.tokens)
            self.assertIs(check_paper(self.program, self.place, paper), False)
        for subject in (("place", "row 2"), ("place", ""), ("place", "row  3"), ("apart", "row 3"), ("apart", "")):
            paper = Paper(right.text, subject, right.verdict, right.tokens)
            self.assertIs(check_paper(self.program, self.place, paper), False)
        for place in ("row 2", "yes 2", "row 2 then row 3", "when 3: a > 3"):
            self.assertIs(check_paper(self.program, read_place(place), right), False)
        for row in ("check a > 4", "check a >= 4", "skip", "check not a <= 3"):
            self.assertIs(check_paper(program_of(HEAD, row, "answer a"), self.place, right), False)

    def test_the_written_form_counts(self):
        program = read_program(" input a  from 0 to 9\ncheck  a>3\nanswer a+0")
        paper = Paper("input a from 0 to 9\ncheck a > 3\nanswer a", ("place", "row 3"), ("found", (4,)),
                      (ON, ("met", ((2,),)), ON, OVER))
        self.assertTrue(check_paper(program, (("row", 3),), paper))

    def test_a_program_that_is_not_good(self):
        bad = program_of(HEAD, "skip", "b = 3")
        place = (("row", 2),)
        paper = Paper(write_program(bad), ("place", "row 2"), ("found", (0,)), (("met", ((1,),)),))
        self.assertIs(check_paper(bad, place, paper), False)
        self.assertIs(check_paper(TOO_LONG, place, Paper(write_program(TOO_LONG), *self.rest(paper))), False)
        good = program_of(HEAD, "skip", "skip")
        self.assertTrue(check_paper(good, place, Paper(write_program(good), *self.rest(paper))))

    def test_a_place_that_is_not_good(self):
        good = program_of(HEAD, "answer a", "skip")
        for place, text in (
            ((("row", 9),), "row 9"), ((("row", 1),), "row 1"), ((("yes", 2),), "yes 2"), ((), ""),
            ((("row", 3),) * 4, " then ".join(["row 3"] * 4)), ([("row", 3)], "row 3"),
            ((("fault", 2, "odd"),), "fault 2 odd"),
            ((("when", 2, "<", ("var", "b", 0), ("num", 1)),), "when 2: b < 1"),
        ):
            paper = Paper(write_program(good), ("place", text), ("none",), (OVER,))
            self.assertIs(check_paper(good, place, paper), False, text)
        self.assertTrue(check_paper(good, (("row", 3),), Paper(
            write_program(good), ("place", "row 3"), ("none",), (OVER,))))

    def rest(self, paper):
        return paper.subject, paper.verdict, paper.tokens

    def test_more_ends_than_a_search_may_have(self):
        rows = checks_of(4096)
        self.use(rows, f"row {len(rows)}")
        tokens = [ON] * 4096 + [("met", ((1,),))] + [ON, OVER] * 4096
        self.accepted(("found", (0,)), *tokens)
        self.refused(("found", (0,)), *tokens[:-1])


class FollowTest(Case):

    def test_the_values_that_are_shown(self):
        for number, program in enumerate(PROGRAMS[:30]):
            for place in [()] + some_places(program, 2, 800 + number):
                tokens, found, _ = explore(PlaceWalk(program, place))
                shown = follow(PlaceWalk(program, place), tokens)
                self.assertEqual(len(shown), len([token for token in tokens if token[0] == "met"]))
                self.assertEqual(tuple(min(shown)) if shown else None, found)
                self.assertEqual([kind for kind in shown if not isinstance(kind, list)], [])

    def test_one_list_for_each_met(self):
        program = program_of(*PAIR, "if a > b + 2", "skip", "end", "check a != 5", "answer b")
        walk = PlaceWalk(program, (("row", 7),))
        tokens = explore(PlaceWalk(program, (("row", 7),)))[0]
        self.assertEqual(follow(walk, tokens), [[3, 0], [6, 0], [0, 0], [6, 4]])
        place = (("fault", 6, "check"),)
        tokens = explore(PlaceWalk(program, place))[0]
        self.assertEqual(follow(PlaceWalk(program, place), tokens), [[5, 0], [5, 3]])
        self.assertEqual(follow(PlaceWalk(program, ()), explore(PlaceWalk(program, ()))[0]), [])

    def test_floors_show_what_they_show(self):
        program = program_of(*PAIR, "check b > a + 2", "skip")
        place = (("row", 4),)
        for floors, values in (
            (((1,), (1, 4)), [0, 3]), (((1,), (3,)), [0, 0]), (((1, 0, 1), (3,)), [-9, 0]),
            (((1,), (1, 0, 3)), [0, -9]),
        ):
            self.assertEqual(follow(PlaceWalk(program, place), (ON, ("met", floors), ON, OVER)), [values])
        for floors in ((), ((1,),), ((1,), ()), ((1,), (2,)), ((3,), (3,)), ((1,), (3,), (3,))):
            self.assertIsNone(follow(PlaceWalk(program, place), (ON, ("met", floors), ON, OVER)))

    def test_tokens_that_are_not_accepted(self):
        program = program_of(HEAD, "check a > 3", "answer a")
        for tokens in ((), (ON,), (ON, OVER), (ON, OVER, ON), (ON, OVER, ON, OVER, OVER), (OVER,), (("dead", (0, 1)),)):
            self.assertIsNone(follow(PlaceWalk(program, ()), tokens), tokens)
        self.assertEqual(follow(PlaceWalk(program, ()), (ON, OVER, ON, OVER)), [])
        self.assertEqual(follow(PlaceWalk(program, ()), [ON, OVER, ON, OVER]), [])

    def test_from_a_point_within_the_tree(self):
        chance = random.Random(3)
        for number, program in enumerate(PROGRAMS):
            for place in [()] + some_places(program, 2, 900 + number):
                walk = PlaceWalk(program, place)
                whole = explore(PlaceWalk(program, place))[0]
                if walk.advance() != "ask":
                    self.assertIsNotNone(follow(walk, whole))
                    continue
                at, ways = 0, []
                for k in range(len(walk.ways())):
                    behind = walk.twin()
                    behind.take(k)
                    if whole[at] == ON:
                        tokens = explore(behind.twin())[0]
                        self.assertEqual(whole[at + 1:at + 1 + len(tokens)], tokens)
                        if chance.random() < 0.5:
                            behind.advance()
                        self.assertIsNotNone(follow(behind.twin(), tokens))
                        self.assertIsNone(follow(behind.twin(), whole[at:]))
                        self.assertIsNone(follow(behind, tokens[:-1]))
                        at += len(tokens)
                    at += 1

    def test_thousands_of_questions(self):
        rows = checks_of(4000)
        walk = PlaceWalk(program_of(*rows), (("row", len(rows)),))
        tokens = [ON] * 4000 + [("met", ((1,),))] + [("dead", (1, k + 2)) for k in range(4000)][::-1]
        self.assertEqual(follow(walk.twin(), tokens), [[0]])
        tokens[-1] = ("dead", (1, 3))
        self.assertIsNone(follow(walk.twin(), tokens))


if __name__ == "__main__":
    unittest.main()
