import itertools
import unittest

from samples import LATER, SMALL, program_of, random_programs, some_inputs
from wayorring.checks import check_program
from wayorring.errors import BadPlace
from wayorring.meaning import run_program
from wayorring.places import check_place, read_place, standing
from wayorring.program import statements_of
from wayorring.reader import read_program

# Each kind of statement, in the program and in functions.
ROWS = (
    "input a from 0 to 9",                      # 1
    "input xs list 3 from -5 to 9",             # 2
    "def one(x, c)",                            # 3
    "let r from 0 to 5 = x",                    # 4
    "let s = x",                                # 5
    "list ys 2 = s",                            # 6
    "r = ys[0]",                                # 7
    "s = 4",                                    # 8
    "x = ys[1]",                                # 9
    "return ys[x] + 1",                         # 10
    "end",                                      # 11
    "def two()",                                # 12
    "let r = 1",                                # 13
    "let t from 1 to 1 = 1",                    # 14
    "r = one(r, 2)",                            # 15
    "t = one(r, t)",                            # 16
    "return t",                                 # 17
    "end",                                      # 18
    "let r = xs[a]",                            # 19
    "let s from 0 to 9 = 3",                    # 20
    "let u from 0 to 9 = xs[0]",                # 21
    "list ys 4 = xs[1]",                        # 22
    "list zs 1 = a",                            # 23
    "r = 4",                                    # 24
    "s = r",                                    # 25
    "u = xs[2]",                                # 26
    "ys[0] = 1",                                # 27
    "ys[a] = xs[a]",                            # 28
    "r = two()",                                # 29
    "s = two()",                                # 30
    "if a < 5",                                 # 31
    "r = xs[0]",                                # 32
    "ys[1] = 2",                                # 33
    "else",                                     # 34
    "while a < 3 or xs[a] == 2 at most 3",      # 35
    "refuse odd",                               # 36
    "skip",                                     # 37
    "end",                                      # 38
    "end",                                      # 39
    "while a < 3 at most 1",                    # 40
    "check xs[0] < 4",                          # 41
    "end",                                      # 42
    "if not xs[0] < xs[1]",                     # 43
    "end",                                      # 44
    "check a < 4",                              # 45
    "refuse bad",                               # 46
    "answer a",                                 # 47
    "answer xs[0]",                             # 48
)
RANGE_ROWS = (4, 7, 14, 16, 20, 21, 25, 26, 30)
INDEX_ROWS = (7, 9, 10, 19, 21, 22, 26, 27, 28, 32, 33, 35, 41, 43, 48)
NO_STATEMENTS = (1, 2, 3, 11, 12, 18, 34, 38, 39, 42, 44)
CONDITIONS = (31, 35, 40, 41, 43, 45)
TURNS = {35: 3, 40: 1}
KINDS = ("range", "index", "turns", "check", "odd", "bad", "other")


def expected_atoms():
    """All atoms, except for "when", that are good for the program of these rows."""
    atoms = []
    for row in range(1, len(ROWS) + 1):
        if row not in NO_STATEMENTS:
            atoms.append(("row", row))
    for row in CONDITIONS:
        atoms.extend([("yes", row), ("no", row)])
    for row, many in TURNS.items():
        atoms.extend([("turn", row, k) for k in range(1, many + 1)])
        atoms.append(("fault", row, "turns"))
    atoms.extend([("fault", row, "range") for row in RANGE_ROWS])
    atoms.extend([("fault", row, "index") for row in INDEX_ROWS])
    atoms.extend([("fault", 41, "check"), ("fault", 45, "check"), ("fault", 36, "odd"), ("fault", 46, "bad")])
    return atoms


class Case(unittest.TestCase):

    def setUp(self):
        self.program = program_of(*ROWS)
        check_program(self.program)

    def is_good(self, *place, program=None):
        try:
            self.assertIsNone(check_place(program or self.program, place))
        except BadPlace:
            return False
        return True


class AtomsTest(Case):

    def test_each_kind_of_atom_on_each_row(self):
        expected = expected_atoms()
        for row in range(-1, len(ROWS) + 3):
            atoms = [(kind, row) for kind in ("row", "yes", "no")]
            atoms += [("turn", row, k) for k in (-1, 0, 1, 2, 3, 4, 8)]
            atoms += [("fault", row, kind) for kind in KINDS]
            for atom in atoms:
                self.assertEqual(self.is_good(atom), atom in expected, atom)

    def test_turns_at_and_beyond_the_bounds(self):
        for row, k, good in (
            (35, 0, False), (35, 1, True), (35, 3, True), (35, 4, False), (40, 0, False), (40, 1, True), (40, 2, False),
            (31, 1, False), (45, 1, False),
        ):
            self.assertEqual(self.is_good(("turn", row, k)), good)

    def test_all_atoms_must_be_good(self):
        good, other, bad = ("row", 19), ("yes", 31), ("row", 18)
        self.assertTrue(self.is_good(good, other))
        self.assertTrue(self.is_good(good, other, good))
        self.assertTrue(self.is_good(good, good, good))
        for place in itertools.product((good, other, bad), repeat=3):
            self.assertEqual(self.is_good(*place), bad not in place, place)
        self.assertFalse(self.is_good(good, bad))
        self.assertFalse(self.is_good(bad, good))
        # The order of the atoms need not be one that a run can have.
        self.assertTrue(self.is_good(("row", 48), ("row", 19)))

    def test_a_list_an_empty_tuple_and_four_atoms(self):
        good = ("row", 19)
        for place in ([good], [], (), (good,) * 4, (good,) * 5, [good, good]):
            with self.assertRaises(BadPlace, msg=place):
                check_place(self.program, place)

    def test_nothing_is_changed(self):
        before = (self.program.inputs, self.program.functions, self.program.body)
        place = (("row", 19), ("when", 19, "<", ("var", "a", 0), ("num", 3)))
        for _ in range(2):
            self.assertIsNone(check_place(self.program, place))
            self.assertFalse(self.is_good(("row", 1)))
        self.assertEqual((self.program.inputs, self.program.functions, self.program.body), before)

    def test_ranges_are_those_of_the_body(self):
        rows = (
            "input a from 0 to 9", "def f(a)", "let c = 1", "c = 2", "a = 3", "let d from 0 to 9 = 3", "d = 4", "end",
            "let c from 0 to 9 = 1", "let d = 1", "c = 2", "d = 2", "d = f(c)", "c = f(d)",
        )
        program = program_of(*rows)
        check_program(program)
        for row, good in ((3, 0), (4, 0), (5, 0), (6, 1), (7, 1), (9, 1), (10, 0), (11, 1), (12, 0), (13, 0), (14, 1)):
            self.assertEqual(self.is_good(("fault", row, "range"), program=program), bool(good), row)


class WhenTest(Case):

    def check_when(self, good, *texts):
        for text in texts:
            self.assertEqual(self.is_good(*read_place(text)), good, text)

    def test_names_declared_above(self):
        self.check_when(
            True, "when 19: a < xs[0]", "when 20: r < a", "when 24: s == u", "when 47: r < ys[a]", "when 32: zs[0] < u",
            "when 36: ys[s - 1] < 2", "when 48: 1 < 2", "when 4: x < c", "when 5: r < x", "when 7: ys[s] < ys[r + 1]",
            "when 10: s < 1", "when 13: 1 < 2", "when 14: r < 1", "when 17: t == r", "when 23: ys[0] < 1",
        )

    def test_names_on_the_row_itself_or_below(self):
        self.check_when(
            False, "when 19: r < 1", "when 19: s < 1", "when 20: s < 1", "when 20: 1 < s", "when 20: u < 1",
            "when 22: ys[0] < 1",
            "when 22: zs[0] < 1", "when 23: zs[0] < 1", "when 4: r < 1", "when 4: s < 1", "when 5: s < r",
            "when 6: ys[0] < 1",
            "when 13: r < 1", "when 13: t < 1", "when 14: t < 1", "when 19: xs[r] < 1",
        )
        self.check_when(True, "when 20: r < 1", "when 21: s < 1", "when 23: ys[0] < 1", "when 24: zs[0] < 1")

    def test_names_of_another_body(self):
        self.check_when(
            False, "when 24: x < 1", "when 24: c < 1", "when 24: t < 1", "when 8: a < 1", "when 8: xs[0] < 1",
            "when 8: u < 1",
            "when 8: t < 1", "when 15: x < 1", "when 15: s < 1", "when 15: ys[0] < 1", "when 15: a < 1",
            "when 8: zs[0] < 1",
            "when 24: other < 1",
        )

    def test_lists_and_numbers_mixed_up(self):
        self.check_when(
            False, "when 47: xs < 1", "when 47: 1 < ys", "when 47: a[0] < 1", "when 47: r[0] < 1",
            "when 47: xs[ys] < 1",
            "when 47: 1 < xs[zs + 1]", "when 10: ys < 1", "when 10: x[0] < 1", "when 10: ys[ys] < 1",
        )

    def test_numbers_at_and_beyond_the_bounds(self):
        for number, good in ((0, True), (999999, True), (1000000, False), (9999999999, False)):
            self.check_when(
                good, f"when 47: a < {number}", f"when 47: -{number} < a", f"when 47: a + {number} < 1",
                f"when 47: 1 < a - {number}", f"when 47: xs[{number}] < 1", f"when 47: xs[-{number}] < 1",
                f"when 47: xs[a + {number}] < 1", f"when 47: 1 < xs[a - {number}]", f"when 47: xs[0] + {number} < 1",
                f"when 47: xs[0] - {number} < 1",
            )

    def test_the_row_must_be_that_of_a_statement(self):
        for row in range(0, len(ROWS) + 3):
            good = 1 <= row <= len(ROWS) and row not in NO_STATEMENTS
            self.assertEqual(self.is_good(("when", row, "<", ("num", 1), ("num", 2))), good, row)

    def test_an_index_that_is_always_outside_is_good(self):
        self.check_when(True, "when 47: xs[-1] < 1", "when 47: xs[999999] < ys[4]")

    def test_each_sign(self):
        self.check_when(True, *[f"when 47: a {sign} 1" for sign in ("<", "<=", ">", ">=", "==", "!=")])

    def test_a_when_among_other_atoms(self):
        self.check_when(True, "row 19 then when 20: r < 1 then no 31")
        self.check_when(False, "row 19 then when 19: r < 1 then no 31", "row 18 then when 20: r < 1")


class StandingTest(Case):

    def test_all_atoms_ascending_each_once(self):
        found = standing(self.program)
        self.assertIsInstance(found, list)
        self.assertEqual(found, sorted(expected_atoms()))
        self.assertEqual(len(found), len(set(found)))

    def test_a_short_program(self):
        self.assertEqual(standing(program_of("input a from 0 to 9", "skip")), [("row", 2)])
        program = program_of("input a from 0 to 9", "while a < 1 at most 2", "end")
        self.assertEqual(
            standing(program),
            [("fault", 2, "turns"), ("no", 2), ("row", 2), ("turn", 2, 1), ("turn", 2, 2), ("yes", 2)],
        )

    def test_the_list_belongs_to_the_caller(self):
        before = standing(self.program)
        taken = standing(self.program)
        taken.clear()
        taken.append(None)
        standing(self.program).reverse()
        self.assertEqual(standing(self.program), before)

    def test_just_the_good_ones(self):
        for program in random_programs(60, 8000) + [read_program(text) for text in SMALL + (LATER,)]:
            found = standing(program)
            self.assertEqual(found, sorted(set(found)))
            for row in range(0, 62):
                atoms = [(kind, row) for kind in ("row", "yes", "no")]
                atoms += [("turn", row, k) for k in range(0, 10)]
                atoms += [("fault", row, kind) for kind in KINDS]
                for atom in atoms:
                    self.assertEqual(self.is_good(atom, program=program), atom in found, atom)
            self.assertEqual([atom[1] for atom in found if atom[0] == "row"], [s[1] for s in statements_of(program)])

    def test_each_event_of_a_run_stands(self):
        for program in random_programs(80, 8300):
            found = standing(program)
            for inputs in some_inputs(program, 10, 9):
                for event in run_program(program, inputs).events:
                    self.assertIn(event, found)


if __name__ == "__main__":
    unittest.main()
