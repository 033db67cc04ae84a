import random
import unittest

from samples import (
    SMALL, Tree, check_refusals, checks_of, few_inputs, least_values, program_of, random_programs, some_places,
    verdict_of_all)
from wayorring.chains import floor_value, is_ring
from wayorring.checks import check_program
from wayorring.errors import BadPlace, BadProgram, TooWide
from wayorring.papers import Paper
from wayorring.places import read_place, standing
from wayorring.reader import read_program
from wayorring.search import explore, find_least
from wayorring.walks import PlaceWalk
from wayorring.writer import write_program

HEAD = "input a from -4 to 9"
PAIR = ["input a from 0 to 9", "input b from 0 to 9"]
EXAMPLE = PAIR + ["if a > b + 2", "answer 1", "end", "check a != 5"]
PROGRAMS = [read_program(text) for text in SMALL] + few_inputs(random_programs(60, 4000), 150)


class Case(unittest.TestCase):

    def search(self, rows, text):
        program = program_of(*rows)
        check_program(program)
        return find_least(program, read_place(text))

    def check(self, rows, text, verdict):
        self.assertEqual(self.search(rows, text).verdict, verdict, (rows, text))

    def found(self, rows, text, *inputs):
        self.check(rows, text, ("found", inputs))

    def none(self, rows, text):
        self.check(rows, text, ("none",))


class FindLeastTest(Case):

    def test_the_example(self):
        paper = self.search(EXAMPLE, "fault 6 check")
        self.assertEqual(paper.verdict, ("found", (5, 3)))
        self.assertEqual(paper.text, write_program(program_of(*EXAMPLE)))
        self.assertEqual(paper.subject, ("place", "fault 6 check"))

    def test_what_a_paper_has(self):
        program = read_program("input  a from 0 to 9\nif a<3\nanswer  a+1\nend\nskip")
        place = (("when", 3, "<", ("var", "a", 0), ("num", 1)), ("row", 3))
        paper = find_least(program, place)
        self.assertIsInstance(paper, Paper)
        self.assertEqual(paper.text, "input a from 0 to 9\nif a < 3\n  answer a + 1\nend\nskip")
        self.assertEqual(paper.subject, ("place", "when 3: a < 1 then row 3"))
        self.assertEqual(paper.verdict, ("none",))
        for held in (paper.subject, paper.verdict, paper.tokens, *paper.tokens):
            self.assertIsInstance(held, tuple)
        found = find_least(program, (("row", 3),))
        for held in (found.verdict[1], found.tokens[1][1], found.tokens[1][1][0]):
            self.assertIsInstance(held, tuple)

    def test_no_input_is_needed(self):
        self.found([HEAD, "skip"], "row 2", -4)
        self.none([HEAD, "answer a", "skip"], "row 3")
        self.assertEqual(self.search([HEAD, "skip"], "row 2").tokens, (("met", ((1,),)),))
        self.assertEqual(self.search([HEAD, "answer a", "skip"], "row 3").tokens, (("over",),))

    def test_ways_of_a_condition(self):
        rows = PAIR + ["if a > b + 2 and b != 0", "skip", "end", "check a < b or a == 4"]
        for text, inputs in (
            ("yes 3", (4, 1)), ("no 3", (0, 0)), ("yes 6", (0, 1)), ("no 6", (0, 0)), ("row 4", (4, 1)),
        ):
            self.found(rows, text, *inputs)

    def test_loops(self):
        rows = [HEAD, "let i = 0", "while i < a at most 3", "i = i + 2", "end", "answer i"]
        for text, inputs in (
            ("turn 3 1", (1,)), ("turn 3 2", (3,)), ("turn 3 3", (5,)), ("fault 3 turns", (7,)), ("no 3", (-4,)),
            ("turn 3 2 then no 3", (3,)), ("row 4 then row 4 then no 3", (3,)), ("when 3: i >= 4", (3,)),
        ):
            self.found(rows, text, *inputs)
        self.none(rows, "fault 3 turns then row 6")

    def test_functions(self):
        rows = [HEAD, "def f(x, y)", "if x < y", "return 3", "end", "end", "let c = 0", "c = f(a, 2)", "c = f(c, a)"]
        for text, inputs in (
            ("row 4", (-4,)), ("no 3", (-4,)), ("yes 3 then yes 3", None), ("no 3 then yes 3", (2,)),
            ("no 3 then no 3", None), ("row 8 then no 3 then row 9", (2,)), ("when 3: x == 7", (7,)),
            ("when 3: x == y + 1", (3,)), ("when 9: c == 0", (2,)), ("when 3: y > x + 2 then row 9", (-4,)),
        ):
            self.check(rows, text, ("none",) if inputs is None else ("found", inputs))

    def test_faults_of_each_kind(self):
        rows = [
            HEAD, "list xs 3 = a", "let c from 0 to 5 = a + 1", "if xs[c] == 4", "refuse odd", "end", "check c != 0",
            "while c < 9 at most 1", "c = c + 4", "end", "answer c",
        ]
        for text, inputs in (
            ("fault 3 range", (-4,)), ("no 4 then fault 7 check", (-1,)), ("fault 4 index", (2,)),
            ("fault 9 range", (1,)), ("fault 8 turns", (0,)), ("no 8", None), ("fault 5 odd", None), ("yes 4", None),
        ):
            self.check(rows, text, ("none",) if inputs is None else ("found", inputs))
        self.found([HEAD, "if a == 4", "refuse odd", "end"], "fault 3 odd", 4)
        self.found([HEAD, "let c from -4 to 5 = a", "check c < 5"], "fault 2 range", 6)

    def test_several_atoms(self):
        rows = [HEAD, "let i = 0", "while i < 3 at most 3", "if i == a", "skip", "end", "i = i + 1", "end"]
        rows.append("check a < 1")
        for text, inputs in (
            ("yes 4", (0,)), ("turn 3 2 then yes 4", (1,)), ("turn 3 3 then yes 4 then row 9", (2,)),
            ("yes 4 then yes 4", None), ("yes 4 then turn 3 2", (0,)), ("row 5 then turn 3 3 then no 9", (1,)),
            ("yes 4 then fault 9 check", (1,)), ("row 9 then row 3", None),
        ):
            self.check(rows, text, ("none",) if inputs is None else ("found", inputs))

    def test_when(self):
        rows = ["input a from 0 to 9", "input xs list 3 from 0 to 9", "let i = a", "skip", "skip"]
        for text, inputs in (
            ("when 4: a > 3", (4, 0, 0, 0)), ("when 4: xs[a] == a + 1", (0, 1, 0, 0)),
            ("when 4: xs[a] < xs[1]", (0, 0, 1, 0)), ("when 4: a > 0 then when 5: xs[i] >= 7", (1, 0, 7, 0)),
            ("when 4: a > 1 then when 4: a > 2", None), ("when 4: a > 2 then when 5: xs[i] == 0", None),
            ("when 4: xs[a] == 9 then when 5: xs[0] == 0 then row 5", None),
            ("when 5: xs[a - 1] != xs[a - 2]", (2, 0, 1, 0)), ("when 3: a != a", None),
        ):
            self.check(rows, text, ("none",) if inputs is None else ("found", inputs))

    def test_a_when_whose_index_is_outside(self):
        rows = ["input a from 2 to 9", "input xs list 3 from 0 to 1", "skip"]
        self.found(rows, "when 3: xs[a] == 1", 2, 0, 0, 1)
        self.none(rows, "when 3: xs[a + 1] == 1")
        self.none(rows, "when 3: xs[a + 1] != 1")
        self.none(rows, "when 3: 3 < xs[a - 9]")
        self.found(["input a from 1 to 9", "skip", "list xs 2 = a", "skip"], "when 4: xs[a] == a", 1)

    def test_equal_conditions(self):
        for sign, inputs, number in (("==", (5, 5), 6), ("<=", (3, 5), 3), (">=", (5, 5), 6)):
            self.found(["input a from 3 to 9", "input b from 5 to 7", f"check a {sign} b"], "yes 3", *inputs)
            self.found(["input a from 3 to 9", f"check a {sign} 6"], "yes 2", number)
        rows = ["input xs list 3 from 0 to 9", "input a from 1 to 2", "check xs[a] == xs[a - 1] + 4", "answer xs[a]"]
        self.found(rows, "row 4", 0, 0, 4, 2)
        self.found(["input xs list 2 from 0 to 9", "check xs[0] + 1 == xs[1]", "check xs[1] == 7"], "yes 3", 6, 7)
        self.none(PAIR + ["check a == b", "check a == b + 1"], "yes 4")
        self.none(PAIR + ["check a == b", "check b == 4", "check a != 4"], "yes 5")
        self.found(PAIR + ["check a == b", "check b == 4", "check a == 4"], "yes 5", 4, 4)

    def test_ranges_of_one_number_and_great_ones(self):
        self.found(["input a from 7 to 7", "check a == 7"], "yes 2", 7)
        self.none(["input a from 7 to 7", "check a == 7"], "no 2")
        great = "input {} from -1000000000 to 1000000000"
        rows = [great.format("a"), great.format("b"), "if a > b + 999999", "if b > 500", "skip", "end", "end", "skip"]
        self.found(rows, "row 4", -999000000, -1000000000)
        self.found(rows, "row 5", 1000501, 501)
        self.found(rows, "row 8", -1000000000, -1000000000)
        self.found(["input a from -1000000000 to 1000000000", "let c = a", "c = c + 3", "check c <= 3"], "no 4", 1)
        self.none(rows[:2] + ["check a < b", "check b < a + 1"], "yes 4")

    def test_the_verdict_is_right(self):
        for number, program in enumerate(PROGRAMS):
            places = [(atom,) for atom in standing(program)[::4]] + some_places(program, 4, number)
            for place in places:
                verdict = find_least(program, place).verdict
                self.assertEqual(verdict, verdict_of_all(program, place), (write_program(program), place))

    def test_the_least_is_found_whatever_comes_first(self):
        rows = PAIR + ["if a > 5", "if b > 3", "skip", "end", "else", "if b > 7", "skip", "end", "end", "skip"]
        self.found(rows, "yes 8", 0, 8)
        self.found(rows, "row 12", 0, 0)
        self.found(rows, "row 9 then row 12", 0, 8)
        self.found(PAIR + ["check a != 4", "check a > 2 or b < 9", "check a + 1 > 3 and b > a"], "yes 5", 3, 4)

    def test_tokens(self):
        paper = self.search(EXAMPLE, "fault 6 check")
        kinds = [token[0] for token in paper.tokens]
        self.assertEqual(kinds, ["on", "over", "on", "on", "over", "on", "over", "on", "met"])
        ties = [(1, 0, 9), (0, 1, 0), (2, 0, 9), (0, 2, 0), (1, 2, 2), (1, 0, 5), (0, 1, -5)]
        floors = paper.tokens[-1][1]
        self.assertEqual([floor_value(ties, floor, k) for k, floor in enumerate(floors, start=1)], [5, 3])
        rows = PAIR + ["if a > 4", "if b < 3", "check a > b"]
        paper = self.search(rows + ["end", "end"], "no 5")
        self.assertEqual([token[0] for token in paper.tokens], [
            "on", "on", "on", "over", "dead", "on", "over", "on", "over"])
        ties = [(1, 0, 9), (0, 1, 0), (2, 0, 9), (0, 2, 0), (0, 1, -5), (2, 0, 2), (1, 2, 0)]
        self.assertTrue(is_ring(ties, paper.tokens[4][1]))

    def test_the_tokens_are_those_of_the_tree(self):
        for number, program in enumerate(PROGRAMS):
            for place in some_places(program, 3, 1000 + number):
                tree = Tree(program, PlaceWalk(program, place))
                paper = find_least(program, place)
                self.assertEqual(tree.shown(paper.tokens), tree.tokens, (write_program(program), place))

    def test_again_behind_another_place(self):
        for program in PROGRAMS[:12]:
            places = some_places(program, 6, 7)
            first = [find_least(program, place) for place in places]
            text = write_program(program)
            for place, paper in list(zip(places, first))[::-1]:
                told = (paper.text, paper.subject, paper.verdict, paper.tokens)
                again = find_least(program, place)
                self.assertTrue(again.same(paper))
                self.assertEqual((paper.text, paper.subject, paper.verdict, paper.tokens), told)
            self.assertEqual(write_program(program), text)
            self.assertTrue(program.same(read_program(text)))


class RefusalTest(Case):

    def test_a_program_that_is_not_good_comes_first(self):
        wide = program_of(*checks_of(4096)[:-1], "b = 3")
        for place in ((), (("row", 9),), (("row", 2),), [("row", 2)]):
            check_refusals(self, lambda program: find_least(program, place))
            with self.assertRaises(BadProgram):
                find_least(wide, place)

    def test_then_a_place_that_is_not_good(self):
        wide = program_of(*checks_of(4096))
        for program in (program_of(HEAD, "check a < 3"), wide):
            for place in ((), (("row", 1),), (("row", 99),), [("row", 2)], (("row", 2),) * 4, (("turn", 2, 1),),
                          (("fault", 2, "odd"),), (("when", 2, "<", ("var", "b", 0), ("num", 1)),)):
                with self.assertRaises(BadPlace):
                    find_least(program, place)

    def test_the_number_of_ends(self):
        least, more = program_of(*checks_of(4095)), program_of(*checks_of(4096))
        check_program(more)
        paper = find_least(least, (("row", len(checks_of(4095))),))
        self.assertEqual(paper.verdict, ("found", (0,)))
        self.assertEqual(len([token for token in paper.tokens if token[0] != "on"]), 4096)
        place = (("row", len(checks_of(4096))),)
        for _ in range(2):
            with self.assertRaises(TooWide):
                find_least(more, place)
            self.assertEqual(find_least(more, (("row", 5),)).verdict, ("found", (0,)))

    def test_ends_of_each_kind_count(self):
        for many, verdict in ((4094, ("found", (5,))), (4095, None)):
            rows = checks_of(many)[:-1] + ["check a < 5"]
            program = program_of(*rows)
            check_program(program)
            place = (("fault", len(rows), "check"),)
            if verdict is None:
                with self.assertRaises(TooWide):
                    find_least(program, place)
            else:
                paper = find_least(program, place)
                ends = [token[0] for token in paper.tokens if token[0] != "on"]
                self.assertEqual(paper.verdict, verdict)
                self.assertEqual((ends.count("dead"), ends.count("over"), ends.count("met")), (4094, 1, 1))


class ExploreTest(Case):

    def test_from_the_beginning(self):
        for number, program in enumerate(PROGRAMS):
            for place in [()] + some_places(program, 2, 2000 + number):
                self.check_tree(program, PlaceWalk(program, place))

    def test_from_a_point_within_the_tree(self):
        chance = random.Random(5)
        several = 0
        for number, program in enumerate(PROGRAMS):
            for place in [()] + some_places(program, 3, 3000 + number):
                walk = PlaceWalk(program, place)
                for _ in range(chance.randint(1, 4)):
                    if walk.advance() != "ask":
                        break
                    self.take_one(program, walk, chance)
                    several += 1
                if chance.random() < 0.5:
                    walk.advance()
                self.check_tree(program, walk)
        self.assertGreater(several, 200)

    def take_one(self, program, walk, chance):
        """Goes one of the ways that are not dead."""
        live = []
        for number in range(len(walk.ways())):
            behind = walk.twin()
            behind.take(number)
            if least_values(program, behind.differences) is not None:
                live.append(number)
        walk.take(chance.choice(live))

    def check_tree(self, program, walk):
        tree = Tree(program, walk.twin())
        tokens, found, rows = explore(walk)
        self.assertIsInstance(tokens, tuple)
        self.assertEqual(tree.shown(tokens), tree.tokens)
        self.assertEqual(found, min(tree.least) if tree.least else None)
        self.assertEqual(rows, sorted(tree.rows))
        if found is not None:
            self.assertIsInstance(found, tuple)
        self.assertIsInstance(rows, list)

    def test_rows(self):
        rows = PAIR + ["if a > 3", "skip", "if b > a and b < 4", "skip", "end", "else", "skip", "end", "answer a"]
        program = program_of(*rows)
        self.assertEqual(explore(PlaceWalk(program, ()))[2], [3, 4, 5, 9, 11])
        self.assertEqual(explore(PlaceWalk(program, (("yes", 3),)))[2], [3, 9, 11])
        self.assertEqual(explore(PlaceWalk(program, (("row", 5),)))[2], [3, 4, 5, 9, 11])
        walk = PlaceWalk(program, (("no", 5),))
        walk.advance()
        walk.take(0)
        self.assertEqual(explore(walk)[2], [3, 4, 5])

    def test_rows_of_a_way_that_is_dead(self):
        program = program_of(*PAIR, "check a >= 0", "if a < 0", "skip", "end", "check b < 10", "skip")
        self.assertEqual(explore(PlaceWalk(program, ()))[2], [3, 4, 7, 8])

    def test_a_point_at_an_end(self):
        program = program_of(*PAIR, "check a < 5", "answer a")
        walk = PlaceWalk(program, (("row", 4),))
        walk.advance()
        walk.take(0)
        self.assertEqual(walk.advance(), "met")
        tokens, found, rows = explore(walk)
        self.assertEqual([token[0] for token in tokens], ["met"])
        self.assertEqual((found, rows), ((0, 0), [3, 4]))
        walk = PlaceWalk(program, (("row", 4),))
        walk.advance()
        walk.take(1)
        self.assertEqual(explore(walk), ((("over",),), None, [3]))

    def test_thousands_of_questions(self):
        program = program_of(*checks_of(4000))
        last = len(checks_of(4000))
        tokens, found, rows = explore(PlaceWalk(program, (("row", last),)))
        self.assertEqual(found, (0,))
        self.assertEqual(len(tokens), 8001)
        self.assertEqual(tokens.count(("on",)), 4000)
        self.assertEqual([token[0] for token in tokens[-4001:]], ["met"] + ["dead"] * 4000)
        self.assertEqual(rows[-1], last)

    def test_the_ends_count_from_the_point_on(self):
        program = program_of(*checks_of(4096))
        with self.assertRaises(TooWide):
            explore(PlaceWalk(program, ()))
        walk = PlaceWalk(program, ())
        walk.advance()
        walk.take(0)
        self.assertEqual(len(explore(walk)[0]), 4095 * 2 + 1)
        walk = PlaceWalk(program, ())
        walk.advance()
        with self.assertRaises(TooWide):
            explore(walk)


if __name__ == "__main__":
    unittest.main()
