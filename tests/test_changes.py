import unittest

from samples import LATER, SMALL, check_refusals, program_of, random_programs
from wayorring.changes import Change, list_changes
from wayorring.checks import check_program, weight_of
from wayorring.errors import TooLong
from wayorring.program import Program
from wayorring.reader import read_program
from wayorring.writer import write_program

HEAD = "input a from 0 to 9"
ITEMS = "input xs list 3 from 0 to 5"


def told(program):
    """Row, kind and the changed row's text of each change."""
    text = write_program(program).split("\n")
    found = []
    for change in list_changes(program):
        other = write_program(change.program).split("\n")
        unlike = [at for at in range(len(text)) if text[at] != other[at]]
        assert len(text) == len(other) and unlike == [change.row - 1], (change.row, change.kind, other)
        found.append((change.row, change.kind, other[change.row - 1].strip()))
    return found


class Case(unittest.TestCase):

    def check(self, rows, *expected):
        program = program_of(*rows)
        check_program(program)
        self.assertEqual(told(program), list(expected))

    def check_row(self, line, *expected, head=(HEAD, ITEMS), tail=()):
        """The changes of one row, behind rows without changes and before others without."""
        at = len(head) + 1
        self.check([*head, line, *tail], *[(at, kind, changed) for kind, changed in expected])


class KindsTest(Case):

    def test_if(self):
        self.check_row(
            "if a < 3", ("edge", "if a <= 3"), ("turned", "if not a < 3"), tail=["skip", "else", "refuse bad", "end"])

    def test_while(self):
        self.check_row(
            "while xs[a] - 1 >= 3 at most 4", ("edge", "while xs[a] - 1 > 3 at most 4"),
            ("turned", "while not xs[a] - 1 >= 3 at most 4"), tail=["skip", "end"])

    def test_check(self):
        self.check_row(
            "check a == 3", ("edge", "check a != 3"), ("turned", "check not a == 3"), ("out", "skip"))

    def test_let_and_list(self):
        self.check_row("let c = a", ("more", "let c = a + 1"), ("less", "let c = a - 1"))
        self.check_row(
            "let c from -3 to 9 = 4", ("more", "let c from -3 to 9 = 5"), ("less", "let c from -3 to 9 = 3"))
        self.check_row(
            "list ys 4 = xs[a + 2]", ("more", "list ys 4 = xs[a + 2] + 1"), ("less", "list ys 4 = xs[a + 2] - 1"))

    def test_assignments(self):
        head = [HEAD, ITEMS, "def f(x)", "x = x - 1", "list ys 2 = 0", "end", "skip"]
        self.check(
            head, (4, "more", "x = x"), (4, "less", "x = x - 2"), (4, "out", "skip"), (5, "more", "list ys 2 = 1"),
            (5, "less", "list ys 2 = -1"))
        head[4:5] = ["list ys 2 = 999999", "ys[x + 1] = ys[x] - 1"]
        self.check(
            head, (4, "more", "x = x"), (4, "less", "x = x - 2"), (4, "out", "skip"), (5, "less", "list ys 2 = 999998"),
            (6, "more", "ys[x + 1] = ys[x]"), (6, "less", "ys[x + 1] = ys[x] - 2"), (6, "out", "skip"))

    def test_a_call(self):
        self.check(
            [HEAD, "def f(x)", "skip", "end", "let c = -1", "c = f(c + 1)"], (5, "more", "let c = 0"),
            (5, "less", "let c = -2"), (6, "out", "skip"))

    def test_answer_and_return(self):
        self.check_row("answer xs[0]", ("more", "answer xs[0] + 1"), ("less", "answer xs[0] - 1"))
        self.check_row("answer -7", ("more", "answer -6"), ("less", "answer -8"))
        self.check(
            [HEAD, "def f(x)", "return x + 5", "end", "skip"], (3, "more", "return x + 6"), (3, "less", "return x + 4"))

    def test_rows_without_changes(self):
        self.check([HEAD, "skip", "refuse bad", "skip"])

    def test_signs(self):
        for sign, other in (("<", "<="), ("<=", "<"), (">", ">="), (">=", ">"), ("==", "!="), ("!=", "==")):
            self.check_row(
                f"if a {sign} xs[1]", ("edge", f"if a {other} xs[1]"), ("turned", f"if not a {sign} xs[1]"),
                tail=["end"])

    def test_edges_from_left_to_right(self):
        self.check_row(
            "if (a < 1 or a > 2) and not (a == 3 and a != 4) and a >= 5",
            ("edge", "if (a <= 1 or a > 2) and not (a == 3 and a != 4) and a >= 5"),
            ("edge", "if (a < 1 or a >= 2) and not (a == 3 and a != 4) and a >= 5"),
            ("edge", "if (a < 1 or a > 2) and not (a != 3 and a != 4) and a >= 5"),
            ("edge", "if (a < 1 or a > 2) and not (a == 3 and a == 4) and a >= 5"),
            ("edge", "if (a < 1 or a > 2) and not (a == 3 and a != 4) and a > 5"),
            ("turned", "if not ((a < 1 or a > 2) and not (a == 3 and a != 4) and a >= 5)"),
            ("joined", "if (a < 1 or a > 2) or not (a == 3 and a != 4) or a >= 5"),
            ("joined", "if (a < 1 and a > 2) and not (a == 3 and a != 4) and a >= 5"),
            ("joined", "if (a < 1 or a > 2) and not (a == 3 or a != 4) and a >= 5"), tail=["end"])

    def test_equal_comparisons(self):
        self.check_row(
            "check a < 1 or a < 1", ("edge", "check a <= 1 or a < 1"), ("edge", "check a < 1 or a <= 1"),
            ("turned", "check not (a < 1 or a < 1)"), ("joined", "check a < 1 and a < 1"), ("out", "skip"))

    def test_turned_goes_around_a_not(self):
        self.check_row(
            "if not a < 1", ("edge", "if not a <= 1"), ("turned", "if not not a < 1"), tail=["end"])

    def test_joined_within_others(self):
        self.check_row(
            "if not (a < 1 and (a < 2 or (a < 3 and a < 4)))",
            ("edge", "if not (a <= 1 and (a < 2 or a < 3 and a < 4))"),
            ("edge", "if not (a < 1 and (a <= 2 or a < 3 and a < 4))"),
            ("edge", "if not (a < 1 and (a < 2 or a <= 3 and a < 4))"),
            ("edge", "if not (a < 1 and (a < 2 or a < 3 and a <= 4))"),
            ("joined", "if not (a < 1 or (a < 2 or a < 3 and a < 4))"),
            ("joined", "if not (a < 1 and (a < 2 and (a < 3 and a < 4)))"),
            ("joined", "if not (a < 1 and (a < 2 or (a < 3 or a < 4)))"), tail=["end"])

    def test_an_and_within_an_and_stays_one_of_its_own(self):
        program = program_of(HEAD, "if (a < 1 and a < 2) and a < 3", "end")
        conditions = [change.program.body[0][2] for change in list_changes(program) if change.kind == "joined"]
        first, second, third = [("cmp", "<", ("var", "a", 0), ("num", number)) for number in (1, 2, 3)]
        self.assertEqual(conditions, [
            ("or", (("and", (first, second)), third)), ("and", (("or", (first, second)), third))])

    def test_three_that_are_joined(self):
        self.check_row(
            "check a < 1 and a < 2 and a < 3", ("edge", "check a <= 1 and a < 2 and a < 3"),
            ("edge", "check a < 1 and a <= 2 and a < 3"), ("edge", "check a < 1 and a < 2 and a <= 3"),
            ("turned", "check not (a < 1 and a < 2 and a < 3)"), ("joined", "check a < 1 or a < 2 or a < 3"),
            ("out", "skip"))


class LeftOutTest(Case):

    def test_numbers_that_become_too_great(self):
        for line, kind, changed in (
            ("let c = 999999", "less", "let c = 999998"), ("let c = -999999", "more", "let c = -999998"),
            ("let c = a + 999999", "less", "let c = a + 999998"), ("let c = a - 999999", "more", "let c = a - 999998"),
            ("answer xs[2] + 999999", "less", "answer xs[2] + 999998"),
            ("list ys 2 = xs[2] - 999999", "more", "list ys 2 = xs[2] - 999998"),
        ):
            self.check_row(line, (kind, changed))
        self.check_row("let c = 999998", ("more", "let c = 999999"), ("less", "let c = 999997"))
        self.check_row("let c = a - 999998", ("more", "let c = a - 999997"), ("less", "let c = a - 999999"))

    def test_depth_four(self):
        deep = "not not not not a < 1"
        self.check_row(f"if {deep}", ("edge", "if not not not not a <= 1"), tail=["end"])
        self.check_row(
            f"check {deep[4:]}", ("edge", "check not not not a <= 1"), ("turned", f"check {deep}"), ("out", "skip"))
        self.check_row(
            "while a < 1 and (a < 2 or (a < 3 and not a < 4)) at most 2",
            ("edge", "while a <= 1 and (a < 2 or a < 3 and not a < 4) at most 2"),
            ("edge", "while a < 1 and (a <= 2 or a < 3 and not a < 4) at most 2"),
            ("edge", "while a < 1 and (a < 2 or a <= 3 and not a < 4) at most 2"),
            ("edge", "while a < 1 and (a < 2 or a < 3 and not a <= 4) at most 2"),
            ("joined", "while a < 1 or (a < 2 or a < 3 and not a < 4) at most 2"),
            ("joined", "while a < 1 and (a < 2 and (a < 3 and not a < 4)) at most 2"),
            ("joined", "while a < 1 and (a < 2 or (a < 3 or not a < 4)) at most 2"), tail=["end"])

    def test_six_comparisons(self):
        whole = " or ".join([f"a == {number}" for number in range(6)])
        edges = [whole.replace(f"== {number}", f"!= {number}") for number in range(6)]
        self.check_row(
            f"check {whole}", *[("edge", f"check {edge}") for edge in edges], ("turned", f"check not ({whole})"),
            ("joined", "check " + whole.replace("or", "and")), ("out", "skip"))

    def test_each_change_is_good(self):
        for program in random_programs(40, 60000) + [read_program(text) for text in (LATER, *SMALL)]:
            for change in list_changes(program):
                check_program(change.program)

    def test_the_greatest_weight(self):
        rows = [HEAD, "let c = 0", "while a < 3 at most 8", "while a < 3 at most 8", "c = 0"]
        rows += [*["skip"] * 12, "end", "end"]
        rows += ["while a < 3 at most 8", *["skip"] * 8, "end", *["skip"] * 13]
        program = program_of(*rows)
        check_program(program)
        self.assertEqual(weight_of(program.body, program), 1000)
        self.assertEqual([(change.row, change.kind) for change in list_changes(program)], [
            (2, "more"), (2, "less"), (3, "edge"), (3, "turned"), (4, "edge"), (4, "turned"), (5, "more"), (5, "less"),
            (5, "out"), (20, "edge"), (20, "turned")])
        with self.assertRaises(TooLong):
            list_changes(program_of(*rows, "skip"))

    def test_sixty_rows(self):
        program = program_of(HEAD, "let c = 0", *["skip"] * 57, "answer a")
        self.assertEqual([change.row for change in list_changes(program)], [2, 2, 60, 60])


class OrderTest(Case):

    def test_functions_and_blocks(self):
        self.check([
            HEAD,
            "def f(x)",
            "if x < 1",
            "return 5",
            "else",
            "x = 7",
            "end",
            "end",
            "def g()",
            "return 1",
            "end",
            "let c = 3",
            "if a > 2",
            "while a == 3 at most 1",
            "c = f(a)",
            "end",
            "else",
            "answer c",
            "end",
            "check c >= 4",
        ], (3, "edge", "if x <= 1"), (3, "turned", "if not x < 1"), (4, "more", "return 6"), (4, "less", "return 4"),
            (6, "more", "x = 8"), (6, "less", "x = 6"), (6, "out", "skip"), (10, "more", "return 2"),
            (10, "less", "return 0"), (12, "more", "let c = 4"), (12, "less", "let c = 2"), (13, "edge", "if a >= 2"),
            (13, "turned", "if not a > 2"), (14, "edge", "while a != 3 at most 1"),
            (14, "turned", "while not a == 3 at most 1"), (15, "out", "skip"), (18, "more", "answer c + 1"),
            (18, "less", "answer c - 1"), (20, "edge", "check c > 4"), (20, "turned", "check not c >= 4"),
            (20, "out", "skip"))

    def test_by_rows_and_kinds(self):
        kinds = ["edge", "turned", "joined", "more", "less", "out"]
        for program in random_programs(60, 70000):
            found = [(change.row, kinds.index(change.kind)) for change in list_changes(program)]
            self.assertEqual(found, sorted(found))
            told(program)


class ChangeTest(Case):

    def test_attributes(self):
        program = program_of(HEAD, "check a < 3", "answer a")
        changes = list_changes(program)
        self.assertIsInstance(changes, list)
        for change in changes:
            self.assertIsInstance(change, Change)
            self.assertIsInstance(change.program, Program)
        self.assertEqual([(change.row, change.kind) for change in changes], [
            (2, "edge"), (2, "turned"), (2, "out"), (3, "more"), (3, "less")])

    def test_the_programs_are_as_if_read(self):
        for program in random_programs(60, 80000) + [read_program(text) for text in (LATER, *SMALL)]:
            for change in list_changes(program):
                self.assertTrue(change.program.same(read_program(write_program(change.program))))
                self.assertFalse(change.program.same(program))

    def test_the_program_is_unchanged(self):
        for text in (LATER, *SMALL):
            program = read_program(text)
            changes = list_changes(program)
            texts = [write_program(change.program) for change in changes]
            changes.clear()
            self.assertTrue(program.same(read_program(text)))
            self.assertEqual([write_program(change.program) for change in list_changes(program)], texts)

    def test_refusals(self):
        check_refusals(self, list_changes)


if __name__ == "__main__":
    unittest.main()
