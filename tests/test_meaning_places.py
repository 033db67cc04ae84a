import itertools
import unittest

from samples import LATER, SMALL, events_of, program_of, random_programs, some_inputs
from wayorring.checks import check_program, weight_of
from wayorring.errors import BadInput, WayError
from wayorring.meaning import run_program
from wayorring.reader import read_program
from wayorring.writer import write_program

HEAD = "input a from -9 to 9"
LOOP = (
    HEAD, "let i = 0", "list xs 3 = a", "while i < a at most 3", "xs[i] = i", "i = i + 1", "end", "check a < 3",
    "answer i",
)
# For the input 2: 0 r2, 1 r3, 2 r4, 3 y4, 4 t4.1, 5 r5, 6 r6, 7 r4, 8 y4, 9 t4.2, 10 r5, 11 r6, 12 r4, 13 n4,
# 14 r8, 15 y8, 16 r9.
CALLS = (
    HEAD, "def f(x)", "list ys 2 = x", "let n = x + 1", "if n > 2", "ys[0] = n", "end", "return ys[0]", "end",
    "let n = 0", "n = f(n)", "n = f(a)", "answer n",
)


def var(name, plus=0):
    return ("var", name, plus)


def num(number):
    return ("num", number)


def item(name, index, plus=0):
    return ("item", name, index, plus)


class Case(unittest.TestCase):

    def check_met(self, rows, inputs, place, number):
        program = program_of(*rows)
        check_program(program)
        run = run_program(program, inputs, place=place)
        plain = run_program(program, inputs)
        self.assertEqual(run.met, number, (inputs, place))
        self.assertEqual((run.events, run.outcome), (plain.events, plain.outcome))


class PlacesTest(Case):

    def test_the_events_of_the_loop(self):
        events = "r2 r3 r4 y4 t4.1 r5 r6 r4 y4 t4.2 r5 r6 r4 n4 r8 y8 r9"
        self.assertEqual(run_program(program_of(*LOOP), [2]).events, events_of(events))

    def test_places_of_one_atom_are_met_at_the_least_event(self):
        for atom, number in (
            (("row", 2), 0), (("row", 4), 2), (("yes", 4), 3), (("turn", 4, 1), 4), (("turn", 4, 2), 9),
            (("no", 4), 13),
            (("row", 6), 6), (("yes", 8), 15), (("row", 9), 16), (("turn", 4, 3), None), (("no", 8), None),
            (("fault", 8, "check"), None), (("fault", 5, "index"), None), (("fault", 4, "turns"), None),
        ):
            self.check_met(LOOP, [2], (atom,), number)

    def test_faults_as_places(self):
        # For the input 3 there is a third turn: 12 r4, 13 y4, 14 t4.3, 15 r5, 16 r6, 17 r4, 18 n4, 19 r8, 20 n8, 21 f8.
        self.check_met(LOOP, [3], (("fault", 8, "check"),), 21)
        self.check_met(LOOP, [3], (("no", 8),), 20)
        self.check_met(LOOP, [4], (("fault", 4, "turns"),), 19)
        self.check_met(LOOP, [4], (("fault", 4, "index"),), None)
        self.check_met([HEAD, "refuse bad"], [1], (("fault", 2, "bad"),), 1)
        self.check_met([HEAD, "let c from 0 to 1 = a"], [2], (("fault", 2, "range"),), 1)
        self.check_met([HEAD, "list ys 1 = a", "ys[a] = 1"], [2], (("fault", 3, "index"),), 2)

    def test_places_of_two_atoms(self):
        for first, second, number in (
            (("row", 2), ("row", 3), 1), (("row", 3), ("row", 2), None), (("turn", 4, 1), ("row", 4), 7),
            (("row", 4), ("row", 4), 7), (("yes", 4), ("yes", 4), 8), (("no", 4), ("row", 5), None),
            (("row", 9), ("row", 9), None), (("turn", 4, 2), ("row", 5), 10), (("row", 2), ("row", 9), 16),
        ):
            self.check_met(LOOP, [2], (first, second), number)

    def test_places_of_three_atoms(self):
        for place, number in (
            ((("row", 4), ("row", 4), ("row", 4)), 12), ((("row", 5), ("row", 5), ("row", 5)), None),
            ((("turn", 4, 1), ("row", 5), ("turn", 4, 2)), 9), ((("turn", 4, 2), ("no", 4), ("yes", 8)), 15),
            ((("row", 6), ("row", 6), ("yes", 4)), None), ((("row", 9), ("row", 2), ("row", 3)), None),
            ((("row", 2), ("row", 3), ("row", 4)), 2),
        ):
            self.check_met(LOOP, [2], place, number)

    def test_no_place(self):
        self.assertIsNone(run_program(program_of(*LOOP), [2]).met)
        self.check_met(LOOP, [2], (), None)

    def test_when(self):
        for row, sign, left, right, number in (
            (2, "==", var("a"), num(2), 0), (2, "!=", var("a"), num(2), None), (4, "==", var("i"), num(0), 2),
            (4, "==", var("i"), num(1), 7), (4, ">=", var("i"), var("a"), 12), (5, ">", var("i"), num(0), 10),
            (6, "<", item("xs", var("i")), var("a"), 6), (5, "<", item("xs", var("i")), var("a"), None),
            (6, "==", item("xs", var("i")), num(1), 11), (9, "<=", var("i", 1), var("a", 1), 16),
            (9, "==", item("xs", num(2), 3), num(5), 16), (9, "!=", item("xs", num(0)), num(0), None),
        ):
            self.check_met(LOOP, [2], (("when", row, sign, left, right),), number)

    def test_each_sign_of_a_when(self):
        for sign, good in (("<", (1,)), ("<=", (1, 2)), (">", (3,)), (">=", (2, 3)), ("==", (2,)), ("!=", (1, 3))):
            for value in (1, 2, 3):
                place = (("when", 2, sign, var("a"), num(2)),)
                self.check_met([HEAD, "skip"], [value], place, 0 if value in good else None)

    def test_a_when_with_an_index_outside_does_not_hold(self):
        rows = [HEAD, "list xs 2 = a", "skip"]
        for at in (-1, 2):
            for sign in ("==", "!=", "<", ">="):
                self.check_met(rows, [at], (("when", 3, sign, item("xs", var("a")), num(5)),), None)
                self.check_met(rows, [at], (("when", 3, sign, num(5), item("xs", var("a"))),), None)
                self.check_met(rows, [at], (("when", 3, sign, item("xs", num(0)), item("xs", num(at))),), None)
        self.check_met(rows, [1], (("when", 3, "==", item("xs", var("a")), num(1)),), 1)

    def test_a_when_with_an_index_outside_at_first_and_inside_later(self):
        rows = [HEAD, "list xs 2 = 0", "let i = a", "while i < 2 at most 4", "i = i + 1", "end"]
        # 0 r2, 1 r3, 2 r4 with i = -2, 6 r4 with i = -1, 10 r4 with i = 0.
        self.check_met(rows, [-2], (("when", 4, "==", item("xs", var("i")), num(0)),), 10)
        self.check_met(rows, [-2], (("when", 4, "==", item("xs", var("i")), num(1)),), None)

    def test_a_when_in_a_function_has_the_variables_of_the_function(self):
        # 0 r10, 1 r11, 2 r3, 3 r4, 4 r5, 5 n5, 6 r8, 7 r12, 8 r3, 9 r4, 10 r5, 11 y5 or n5 ..
        self.check_met(CALLS, [5], (("when", 5, "==", var("n"), num(6)),), 10)
        self.check_met(CALLS, [5], (("when", 5, "==", var("n"), num(1)),), 4)
        self.check_met(CALLS, [5], (("when", 3, "==", var("x"), num(5)),), 8)
        self.check_met(CALLS, [5], (("when", 6, ">", var("n"), item("ys", num(0))),), 12)
        self.check_met(CALLS, [1], (("when", 6, ">", var("n"), item("ys", num(0))),), None)
        self.check_met(CALLS, [5], (("when", 8, "==", item("ys", num(0)), num(6)),), 13)
        self.check_met(CALLS, [5],
            (("when", 11, "==", var("n"), num(0)), ("row", 3), ("when", 3, ">", var("x"), num(0))), 8)

    def test_one_event_does_not_meet_a_row_and_a_when(self):
        zero = ("when", 4, ">=", var("i"), num(0))
        self.check_met(LOOP, [2], (("row", 4), zero), 7)
        self.check_met(LOOP, [2], (zero, ("row", 4)), 7)
        self.check_met(LOOP, [2], (zero, zero), 7)
        self.check_met(LOOP, [2], (zero, zero, zero), 12)
        self.check_met(LOOP, [0], (zero, zero), None)

    def test_the_run_goes_on_after_its_place_is_met(self):
        run = run_program(program_of(*LOOP), [3], place=(("row", 2),))
        self.assertEqual((run.met, run.outcome), (0, ("fault", 8, "check")))
        self.assertEqual(run.events[-1], ("fault", 8, "check"))

    def test_places_of_many_programs_are_met_at_the_least_event(self):
        for program in random_programs(40, 500):
            for inputs in some_inputs(program, 6, 1):
                events = run_program(program, inputs).events
                atoms = sorted(set(events))[:6] + [("row", 1)]
                for place in itertools.product(atoms, repeat=2):
                    expected = least_event(events, place)
                    self.assertEqual(run_program(program, inputs, place=place).met, expected, (events, place))


def least_event(events, place):
    """The least number of an event at which events, one after the other, equal the two atoms of a place."""
    for last in range(len(events)):
        if events[last] == place[1] and place[0] in events[:last]:
            return last
    return None


class InputsTest(unittest.TestCase):

    def setUp(self):
        self.program = read_program(LATER)

    def test_a_list_and_a_tuple(self):
        one = run_program(self.program, [3, 1, 20, 5])
        other = run_program(self.program, (3, 1, 20, 5))
        self.assertEqual((one.events, one.outcome), (other.events, other.outcome))

    def test_the_bounds_of_the_ranges(self):
        lowest, highest = [0, -5, -5, -5], [99, 1000000, 1000000, 1000000]
        for inputs in (lowest, highest):
            run_program(self.program, inputs)
        for at in range(4):
            for bounds, step in ((lowest, -1), (highest, 1)):
                wrong = list(bounds)
                wrong[at] += step
                self.check_bad(wrong)
                self.check_bad(tuple(wrong))
        self.assertEqual(run_program(program_of("input a from 3 to 3", "answer a"), [3]).outcome, ("answer", 3))

    def check_bad(self, inputs, program=None):
        with self.assertRaises(BadInput):
            run_program(program or self.program, inputs)
        with self.assertRaises(WayError):
            run_program(program or self.program, inputs, place=(("row", 9),))

    def test_too_few_and_too_many(self):
        for many in (0, 1, 3, 5, 8):
            self.check_bad([0] * many)
            self.check_bad((0,) * many)

    def test_other_things_among_the_integers(self):
        for wrong in ("1", "", None, [1], (1,), 1.0):
            for at in range(4):
                inputs = [1, 2, 3, 4]
                inputs[at] = wrong
                self.check_bad(inputs)
                self.check_bad(tuple(inputs))

    def test_other_things_than_a_list_or_tuple(self):
        for wrong in ("1234", "", {}, {0: 1, 1: 2, 2: 3, 3: 4}, None, 4):
            self.check_bad(wrong)
        one = program_of("input a from 0 to 9", "answer a")
        for wrong in ("1", {1: 1}, {0: 1}, None, 1):
            self.check_bad(wrong, one)

    def test_the_inputs_are_left_as_they_were(self):
        rows = ("input xs list 2 from 0 to 9", "list ys 2 = xs[0]", "ys[0] = 7", "skip")
        inputs = [3, 4]
        run_program(program_of(*rows), inputs)
        self.assertEqual(inputs, [3, 4])
        told = [3, 1, 20, 5]
        run_program(self.program, told, place=(("row", 9),))
        self.assertEqual(told, [3, 1, 20, 5])

    def test_the_same_answer_again_after_another_input(self):
        before = run_program(self.program, [3, 1, 20, 5])
        run_program(self.program, [99, -5, 7, 200])
        with self.assertRaises(BadInput):
            run_program(self.program, [100, 0, 0, 0])
        again = run_program(self.program, [3, 1, 20, 5])
        self.assertEqual((before.events, before.outcome), (again.events, again.outcome))
        self.assertEqual(again.outcome, ("answer", 19))

    def test_the_events_belong_to_the_caller(self):
        run = run_program(self.program, [3, 1, 20, 5])
        events = list(run.events)
        run.events.clear()
        self.assertEqual(run_program(self.program, [3, 1, 20, 5]).events, events)

    def test_the_unknowns_are_in_the_order_of_the_rows_and_items(self):
        rows = ("input xs list 2 from 0 to 9", "input a from 0 to 9", "input ys list 1 from 0 to 9")
        for expression, value in (("xs[0]", 1), ("xs[1]", 2), ("a", 3), ("ys[0]", 4)):
            run = run_program(program_of(*rows, "answer " + expression), [1, 2, 3, 4])
            self.assertEqual(run.outcome, ("answer", value))


class ManyProgramsTest(unittest.TestCase):

    def test_at_most_as_many_rows_begin_as_the_weight_tells(self):
        programs = random_programs(150, 900) + [read_program(text) for text in SMALL + (LATER,)]
        reached = 0
        for program in programs:
            weight = weight_of(program.body, program)
            for inputs in some_inputs(program, 12, 2):
                run = run_program(program, inputs)
                begun = len([event for event in run.events if event[0] == "row"])
                self.assertLessEqual(begun, weight, write_program(program))
                reached += begun == weight
        self.assertGreater(reached, 0)

    def test_the_weight_is_reached(self):
        rows = (
            HEAD, "def f(x)", "while x < 9 at most 2", "if x < 9", "skip", "skip", "end", "end", "end",
            "let c = 0", "while a < 9 at most 3", "c = f(c)", "end",
        )
        program = program_of(*rows)
        # A fault "turns" stops the function in its third turn, so the whole weight is 1 + 4 + 3 * (1 + 9).
        self.assertEqual(weight_of(program.body, program), 35)
        run = run_program(program, [0])
        self.assertEqual(run.outcome, ("fault", 3, "turns"))
        self.assertEqual(len([event for event in run.events if event[0] == "row"]), 1 + 1 + 1 + 9)
        loop = program_of(HEAD, "let i = 0", "while i < 8 at most 8", "if i < 9", "i = i + 1", "end", "end")
        run = run_program(loop, [0])
        self.assertEqual(run.outcome, ("end",))
        self.assertEqual(len([event for event in run.events if event[0] == "row"]), weight_of(loop.body, loop))

    def test_a_program_with_other_spaces_runs_alike(self):
        for program in random_programs(60, 1300) + [read_program(text) for text in SMALL + (LATER,)]:
            text = write_program(program)
            tight = text
            for sign in ("<=", ">=", "==", "!=", "<", ">", "+", "-", "=", ","):
                tight = tight.replace(f" {sign} ", sign)
            wide = "\n".join(["  " + line.replace(" ", "   ") + " " for line in text.split("\n")])
            for sign in ("(", ")", "[", "]", "+", ","):
                wide = wide.replace(sign, f"  {sign} ")
            flat = "\n".join([line.strip() for line in text.split("\n")])
            self.assertGreaterEqual(len({text, tight, wide, flat}), 3)
            for inputs in some_inputs(program, 5, 3):
                told = run_program(program, inputs)
                for other in (text, tight, wide, flat):
                    run = run_program(read_program(other), inputs)
                    self.assertEqual((run.events, run.outcome), (told.events, told.outcome), other)


if __name__ == "__main__":
    unittest.main()
