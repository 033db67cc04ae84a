import unittest

from samples import LATER, SMALL, all_inputs, events_of, program_of, random_programs, some_inputs
from wayorring.chains import keeps
from wayorring.checks import check_program
from wayorring.formrun import FormRun
from wayorring.meaning import run_program
from wayorring.places import check_place, read_place, standing
from wayorring.reader import read_program
from wayorring.systems import System
from wayorring.walks import PlaceWalk
from wayorring.ways import compare_ways, index_ways, range_ways

HEAD = "input a from -4 to 9"
ITEMS = "input xs list 3 from 0 to 5"
RANGES = [(1, 0, 9), (0, 1, 4)]
ITEM_RANGES = RANGES + [(2, 0, 5), (0, 2, 0), (3, 0, 5), (0, 3, 0), (4, 0, 5), (0, 4, 0)]


def differences_of(ways):
    return [differences for result, differences in ways]


def go(walk, takes=()):
    """Goes on by these ways; the word at the end."""
    for take in takes:
        assert walk.advance() == "ask"
        walk.take(take)
    return walk.advance()


class Case(unittest.TestCase):

    def walk_of(self, rows, text=None):
        program = program_of(*rows)
        check_program(program)
        place = () if text is None else read_place(text)
        if place:
            check_place(program, place)
        return PlaceWalk(program, place)


class WalkTest(Case):

    def test_the_beginning(self):
        walk = self.walk_of([HEAD, ITEMS, "input b from -7 to -7", "skip"], "row 4")
        self.assertEqual(walk.many, 5)
        self.assertEqual(walk.differences, ITEM_RANGES + [(5, 0, -7), (0, 5, 7)])
        self.assertIsInstance(walk.run, FormRun)
        self.assertEqual(walk.run.events, [])
        self.assertEqual(self.walk_of([HEAD, "skip"]).many, 1)

    def test_over_and_met(self):
        self.assertEqual(go(self.walk_of([HEAD, "skip", "skip"], "row 3 then row 2")), "over")
        walk = self.walk_of([HEAD, "skip", "skip", "skip"], "row 3")
        self.assertEqual(go(walk), "met")
        self.assertEqual(walk.run.events, events_of("r2 r3"))
        self.assertEqual(walk.differences, RANGES)

    def test_ask_ways_and_take(self):
        walk = self.walk_of([HEAD, ITEMS, "if a == xs[1]", "answer a", "end", "let c from 0 to 3 = a"], "row 4")
        self.assertEqual(walk.advance(), "ask")
        ways = differences_of(compare_ways("==", (1, 0), (3, 0)))
        self.assertEqual(walk.ways(), ways)
        self.assertEqual(walk.run.question, compare_ways("==", (1, 0), (3, 0)))
        self.assertEqual(walk.differences, ITEM_RANGES)
        walk.take(1)
        self.assertEqual(walk.differences, ITEM_RANGES + list(ways[1]))
        self.assertEqual(walk.advance(), "ask")
        kept = differences_of(range_ways((1, 0), 0, 3))
        self.assertEqual(walk.ways(), kept)
        walk.take(1)
        self.assertEqual(walk.differences, ITEM_RANGES + list(ways[1]) + list(kept[1]))
        self.assertEqual(walk.advance(), "over")
        self.assertEqual(walk.run.outcome, ("end",))
        self.assertEqual(walk.differences, ITEM_RANGES + list(ways[1]) + list(kept[1]))

    def test_the_differences_of_a_way_are_taken_in_order(self):
        walk = self.walk_of([HEAD, "check a == 3"], "yes 2")
        self.assertEqual(go(walk, [0]), "met")
        self.assertEqual(walk.differences, RANGES + [(1, 0, 3), (0, 1, -3)])

    def test_the_ways_are_a_list_of_tuples_that_belongs_to_the_caller(self):
        walk = self.walk_of([HEAD, "check a == 3"], "yes 2")
        walk.advance()
        expected = differences_of(compare_ways("==", (1, 0), (0, 3)))
        taken = walk.ways()
        self.assertIsInstance(taken, list)
        for differences in taken:
            self.assertIsInstance(differences, tuple)
        taken.clear()
        self.assertEqual(walk.ways(), expected)
        walk.ways().reverse()
        self.assertEqual(walk.advance(), "ask")
        self.assertEqual(walk.ways(), expected)

    def test_advance_again_without_a_take(self):
        walk = self.walk_of([HEAD, "if a < 3", "skip", "end", "skip", "skip"], "when 3: a < 1 then row 5")
        for word, takes in (("ask", []), ("ask", [0]), ("met", [0])):
            for take in takes:
                walk.take(take)
            for _ in range(4):
                self.assertEqual(walk.advance(), word)
                shown = (list(walk.differences), list(walk.run.events))
                self.assertEqual(walk.advance(), word)
                self.assertEqual((walk.differences, walk.run.events), shown)
        self.assertEqual(walk.run.events, events_of("r2 y2 r3 r5"))
        over = self.walk_of([HEAD, "skip"], "row 2 then row 2")
        for _ in range(4):
            self.assertEqual(over.advance(), "over")
            self.assertEqual(over.run.events, events_of("r2"))

    def test_an_empty_place_is_never_met(self):
        rows = [HEAD, "while a < 3 at most 1", "end", "check a > 4", "answer a"]
        for takes, outcome in (
            ([0, 0], ("fault", 2, "turns")), ([1, 0], ("answer", (1, 0))), ([1, 1], ("fault", 4, "check")),
        ):
            walk = self.walk_of(rows)
            self.assertEqual(go(walk, takes), "over")
            self.assertEqual(walk.run.outcome, outcome)

    def test_a_place_that_is_met_by_the_event_that_ends_the_run(self):
        for head, text, takes in (
            ("answer a", "row 2", []), ("refuse bad", "fault 2 bad", []), ("check a < 3", "fault 2 check", [1]),
            ("let c from 0 to 3 = a", "fault 2 range", [2]), ("skip", "row 2", []),
        ):
            walk = self.walk_of([HEAD, head], text)
            self.assertEqual(go(walk, takes), "met", head)
            self.assertEqual(walk.advance(), "met")
        walk = self.walk_of([HEAD, ITEMS, "answer xs[a]"], "fault 3 index")
        self.assertEqual(go(walk, [4]), "met")
        walk = self.walk_of([HEAD, ITEMS, "answer xs[a]"], "fault 3 index")
        self.assertEqual(go(walk, [3]), "over")
        walk = self.walk_of([HEAD, "while a < 3 at most 1", "end"], "fault 2 turns")
        self.assertEqual(go(walk, [0, 0]), "met")
        walk = self.walk_of([HEAD, "answer a"], "when 2: a < 3")
        self.assertEqual(go(walk, [0]), "met")

    def test_one_event_does_not_meet_two_atoms(self):
        rows = [HEAD, "while a < 3 at most 2", "end"]
        walk = self.walk_of(rows, "row 2 then row 2")
        self.assertEqual(go(walk, [0]), "met")
        self.assertEqual(walk.run.events, events_of("r2 y2 t2.1 r2"))
        walk = self.walk_of(rows, "row 2 then row 2")
        self.assertEqual(go(walk, [1]), "over")
        walk = self.walk_of(rows, "row 2 then when 2: 1 < 2")
        self.assertEqual(go(walk, [0]), "met")
        self.assertEqual(walk.run.events, events_of("r2 y2 t2.1 r2"))


class WhenTest(Case):

    def check_questions(self, walk, pairs, word):
        """Takes ways; each of the pairs has the ways that must stand open and the number of the one that is taken."""
        for ways, take in pairs:
            self.assertEqual(walk.advance(), "ask")
            self.assertEqual(walk.ways(), differences_of(ways))
            before = list(walk.differences)
            walk.take(take)
            self.assertEqual(walk.differences, before + list(ways[take][1]))
        self.assertEqual(walk.advance(), word)

    def test_it_is_evaluated_before_its_row_goes_on(self):
        rows = [HEAD, "check a > 5", "skip"]
        when, own = compare_ways("<", (1, 0), (0, 3)), compare_ways(">", (1, 0), (0, 5))
        walk = self.walk_of(rows, "when 2: a < 3")
        self.check_questions(walk, [(when, 0)], "met")
        self.assertEqual(walk.run.events, events_of("r2"))
        walk = self.walk_of(rows, "when 2: a < 3")
        self.check_questions(walk, [(when, 1), (own, 0)], "over")
        self.assertEqual(walk.run.events, events_of("r2 y2 r3"))
        self.assertEqual(walk.run.outcome, ("end",))

    def test_its_questions_come_in_order(self):
        rows = [HEAD, ITEMS, "input b from 0 to 9", "skip", "skip"]
        left, right = index_ways((1, 1), 3), index_ways((5, 0), 3)
        compared = compare_ways("<=", (3, 0), (4, -2))
        for last, word in ((0, "met"), (1, "over")):
            walk = self.walk_of(rows, "when 5: xs[a + 1] <= xs[b] - 2")
            self.check_questions(walk, [(left, 2), (right, 3), (compared, last)], word)
            self.assertEqual(walk.run.events, events_of("r4 r5"))

    def test_an_index_outside_means_that_it_does_not_hold(self):
        rows = [HEAD, ITEMS, "input b from 0 to 9", "skip", "answer 1"]
        left, right = index_ways((1, 0), 3), index_ways((5, 0), 3)
        for sign in ("==", "!="):
            for take in (0, 4):
                walk = self.walk_of(rows, f"when 4: xs[a] {sign} xs[b]")
                self.check_questions(walk, [(left, take)], "over")
                self.assertEqual(walk.run.events, events_of("r4 r5"))
                self.assertEqual(walk.run.outcome, ("answer", (0, 1)))
                walk = self.walk_of(rows, f"when 4: xs[a] {sign} xs[b]")
                self.check_questions(walk, [(left, 1), (right, take)], "over")
        self.assertEqual(go(self.walk_of(rows, "when 4: xs[3] != 1")), "over")
        self.assertEqual(go(self.walk_of(rows, "when 4: 1 != xs[-1]")), "over")
        self.assertEqual(go(self.walk_of(rows, "when 4: xs[1] == xs[1]")), "met")

    def test_without_questions(self):
        rows = [HEAD, "let i = 0", "while i < 3 at most 3", "i = i + 1", "end"]
        walk = self.walk_of(rows, "when 3: i == 2")
        self.assertEqual(go(walk), "met")
        self.assertEqual(walk.run.events, events_of("r2 r3 y3 t3.1 r4 r3 y3 t3.2 r4 r3"))
        walk = self.walk_of(rows, "when 4: i == 2 then when 3: i > 2")
        self.assertEqual(go(walk), "met")
        self.assertEqual(go(self.walk_of(rows, "when 3: i == 4")), "over")
        self.assertEqual(go(self.walk_of(rows, "when 3: a < a")), "over")

    def test_it_is_not_evaluated_while_the_place_waits_for_something_else(self):
        rows = [HEAD, "skip", "if a < 5", "end", "skip"]
        small, when = compare_ways("<", (1, 0), (0, 5)), compare_ways(">", (1, 0), (0, 2))
        self.check_questions(self.walk_of(rows, "no 3 then when 5: a > 2"), [(small, 0)], "over")
        self.check_questions(self.walk_of(rows, "yes 3 then when 5: a > 2"), [(small, 0), (when, 0)], "met")
        self.check_questions(self.walk_of(rows, "yes 3 then when 2: a > 2"), [(small, 0)], "over")
        self.check_questions(self.walk_of(rows, "when 2: a > 2 then row 5"), [(when, 0), (small, 1)], "met")
        self.check_questions(self.walk_of(rows, "when 2: a > 2 then row 5"), [(when, 1), (small, 1)], "over")

    def test_it_is_asked_each_time_its_row_begins(self):
        rows = [HEAD, "let i = 0", "while i < 2 at most 2", "i = i + 1", "end"]
        asked = [compare_ways("==", (0, k), (1, 0)) for k in range(3)]
        self.check_questions(self.walk_of(rows, "when 3: i == a"), [(asked[0], 1), (asked[1], 2), (asked[2], 0)], "met")
        self.check_questions(self.walk_of(rows, "when 3: i == a"), [(asked[0], 1), (asked[1], 0)], "met")
        self.check_questions(self.walk_of(rows, "when 3: i == a"), [(way, 1) for way in asked], "over")
        twice = "when 3: i == a then when 3: i == a"
        self.check_questions(self.walk_of(rows, twice), [(asked[0], 0), (asked[1], 0)], "met")

    def test_in_a_function(self):
        rows = [HEAD, "def f(x)", "let a = x + 1", "return a", "end", "let c = 0", "c = f(a)", "c = f(c)"]
        one, two = compare_ways("<", (1, 1), (1, 0)), compare_ways("<", (1, 1), (0, 0))
        self.assertEqual(len(one), 1)
        self.check_questions(self.walk_of(rows, "when 4: a < 0"), [(two, 0)], "met")
        second = compare_ways("<", (1, 2), (0, 0))
        self.check_questions(self.walk_of(rows, "when 4: a < 0"), [(two, 1), (second, 0)], "met")
        self.assertEqual(go(self.walk_of(rows, "when 4: a < x")), "over")
        self.assertEqual(go(self.walk_of(rows, "when 4: a > x")), "met")

    def test_its_row_asks_behind_it(self):
        rows = [HEAD, ITEMS, "let c = xs[a]", "answer c"]
        index = index_ways((1, 0), 3)
        walk = self.walk_of(rows, "when 3: xs[a] > 2 then row 4")
        compared = compare_ways(">", (4, 0), (0, 2))
        self.check_questions(walk, [(index, 3), (compared, 0), (index, 3)], "met")
        self.assertEqual(walk.run.events, events_of("r3 r4"))
        self.assertEqual(len(walk.differences), 8 + 2 + 1 + 2)


class TwinTest(Case):

    def test_twins_go_apart(self):
        rows = [HEAD, "if a < 3", "answer 1", "end", "check a < 5"]
        walk = self.walk_of(rows, "row 3")
        walk.advance()
        twin = walk.twin()
        self.assertEqual((twin.many, twin.differences, twin.run.events), (walk.many, walk.differences, walk.run.events))
        walk.take(0)
        self.assertEqual(walk.advance(), "met")
        self.assertEqual((twin.differences, twin.run.events, twin.advance()), (RANGES, events_of("r2"), "ask"))
        self.assertEqual(twin.ways(), differences_of(compare_ways("<", (1, 0), (0, 3))))
        twin.take(1)
        self.assertEqual(twin.advance(), "ask")
        self.assertEqual(twin.run.events, events_of("r2 n2 r5"))
        self.assertEqual(twin.differences, RANGES + [(0, 1, -3)])
        self.assertEqual(walk.differences, RANGES + [(1, 0, 2)])
        self.assertEqual((walk.advance(), walk.run.events), ("met", events_of("r2 y2 r3")))

    def test_twins_at_the_questions_of_a_when(self):
        rows = [HEAD, ITEMS, "skip", "if a < 2", "end"]
        walk = self.walk_of(rows, "when 3: xs[a] < xs[1] then yes 4")
        self.assertEqual(go(walk, [3]), "ask")
        twin = walk.twin()
        walk.take(1)
        self.assertEqual(twin.advance(), "ask")
        self.assertEqual(twin.ways(), differences_of(compare_ways("<", (4, 0), (3, 0))))
        twin.take(0)
        self.assertEqual([walk.advance(), twin.advance()], ["ask", "ask"])
        other = twin.twin()
        for one in (walk, twin, other):
            self.assertEqual(one.run.events, events_of("r3 r4"))
            one.take(1 if one is other else 0)
        self.assertEqual([walk.advance(), twin.advance(), other.advance()], ["over", "met", "over"])

    def test_twins_before_the_beginning_and_behind_the_end(self):
        rows = [HEAD, "if a < 3", "end"]
        walk = self.walk_of(rows, "yes 2")
        twin = walk.twin()
        self.assertEqual(go(walk, [0]), "met")
        self.assertEqual((twin.run.events, twin.differences), ([], RANGES))
        met = walk.twin()
        self.assertEqual((met.advance(), met.run.events), ("met", events_of("r2 y2")))
        self.assertEqual(go(twin, [1]), "over")
        self.assertEqual(twin.twin().advance(), "over")

    def test_a_twin_keeps_how_far_the_place_is_met(self):
        rows = [HEAD, "skip", "if a < 3", "end", "skip", "check a < 5"]
        walk = self.walk_of(rows, "row 2 then yes 3 then yes 6")
        self.assertEqual(go(walk, [0]), "ask")
        twin = walk.twin()
        self.assertEqual(go(twin, [0]), "met")
        self.assertEqual(go(walk, [1]), "over")


class TreesTest(Case):

    def follow(self, program, place, inputs):
        """Goes the way of an input through the tree."""
        told = run_program(program, inputs, place=place)
        walk = PlaceWalk(program, place)
        while True:
            word = walk.advance()
            if word != "ask":
                break
            kept = [number for number, way in enumerate(walk.ways()) if keeps(way, inputs)]
            self.assertEqual(len(kept), 1)
            walk.take(kept[0])
        self.assertTrue(keeps(walk.differences, inputs))
        self.assertEqual(word, "over" if told.met is None else "met", (place, inputs))
        events = told.events if told.met is None else told.events[:told.met + 1]
        self.assertEqual(walk.run.events, events)

    def places_of(self, program, atoms):
        """Several places, among them some with a "when"."""
        places = [(atom,) for atom in atoms[::3]]
        places += list(zip(atoms[::4], atoms[3::4])) + list(zip(atoms[1::5], atoms[::5], atoms[2::5]))
        names = [told[0] + ("[0]" if told[1] else "") for told in program.inputs]
        for statement in program.body:
            for name in names[:2]:
                places.append(read_place(f"when {statement[1]}: {name} >= {names[-1]} - 1"))
                places.append(read_place(f"when {statement[1]}: {name} != 0 then row {statement[1]}"))
        lists = [told[0] for told in program.inputs if told[1]]
        numbers = [told[0] for told in program.inputs if not told[1]]
        if lists and numbers:
            places.append(read_place(f"when {program.body[0][1]}: {lists[0]}[{numbers[0]}] < {numbers[-1]}"))
        return places

    def test_the_way_of_an_input_is_met_where_its_run_is(self):
        for program in random_programs(60, 10000) + [read_program(text) for text in SMALL]:
            for number, place in enumerate(self.places_of(program, standing(program))):
                check_place(program, place)
                for inputs in some_inputs(program, 4, number):
                    self.follow(program, place, inputs)

    def ends(self, program, place):
        """(word, differences, System) at each end of the tree that is not dead."""
        walk = PlaceWalk(program, place)
        system = System(walk.many)
        for difference in walk.differences:
            self.assertIsNone(system.tie(difference))
        waiting, found = [(walk, system)], []
        while waiting:
            walk, system = waiting.pop()
            word = walk.advance()
            if word != "ask":
                found.append((word, walk.differences, system))
                continue
            for number, way in enumerate(walk.ways()):
                known, other = system.twin(), walk.twin()
                rings = [known.tie(difference) for difference in way]
                if rings == [None] * len(rings):
                    other.take(number)
                    waiting.append((other, known))
        return found

    def test_each_input_is_at_one_end_and_the_least_values_give_the_least_input(self):
        tried = 0
        for program in random_programs(40, 11000) + [read_program(text) for text in SMALL]:
            inputs = all_inputs(program)
            if len(inputs) > 130:
                continue
            for place in self.places_of(program, standing(program))[:12]:
                ends = self.ends(program, place)
                for numbers in inputs:
                    kept = [word for word, differences, system in ends if keeps(differences, numbers)]
                    self.assertEqual(len(kept), 1)
                met = [system.least_values() for word, differences, system in ends if word == "met"]
                reached = [numbers for numbers in inputs if run_program(program, numbers, place=place).met is not None]
                self.assertEqual(min(met, default=None), min(reached, default=None), place)
                tried += bool(met)
        self.assertGreater(tried, 50)

    def test_the_example(self):
        program = read_program(LATER)
        for text in ("row 13", "no 12 then yes 12", "when 12: xs[i] > best then turn 11 3", "fault 10 range", "yes 17"):
            place = read_place(text)
            check_place(program, place)
            for inputs in some_inputs(program, 12, 3):
                self.follow(program, place, inputs)


if __name__ == "__main__":
    unittest.main()
