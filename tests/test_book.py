import random
import unittest

from samples import (
    SMALL, check_refusals, checks_of, few_inputs, program_of, random_programs, some_places, verdict_of_all)
from wayorring.book import Book
from wayorring.checker import check_paper
from wayorring.checks import check_program
from wayorring.errors import BadEdit, BadPlace, TooWide
from wayorring.papers import Paper
from wayorring.places import check_place, read_place
from wayorring.program import statements_of
from wayorring.reader import read_program
from wayorring.search import explore, find_least
from wayorring.walks import PlaceWalk
from wayorring.writer import write_program, write_statement

HEAD = "input a from 0 to 9"
PROGRAMS = [read_program(text) for text in SMALL] + few_inputs(random_programs(40, 90000), 100)

ROWS = (
    HEAD,                              # 1
    "def f(x)",                        # 2
    "  if x < 4",                      # 3
    "    return x + 1",                # 4
    "  end",                           # 5
    "  return x",                      # 6
    "end",                             # 7
    "let c from 0 to 20 = a",          # 8
    "list ys 3 = c",                   # 9
    "if a < 5",                        # 10
    "  c = f(c)",                      # 11
    "  ys[0] = c",                     # 12
    "else",                            # 13
    "  while c < 9 at most 4",         # 14
    "    c = c + 1",                   # 15
    "  end",                           # 16
    "end",                             # 17
    "check c != 9",                    # 18
    "answer ys[1]",                    # 19
)


def told(paper):
    return paper.text, paper.subject, paper.verdict, paper.tokens


class Case(unittest.TestCase):

    def setUp(self):
        self.program = program_of(*ROWS)
        self.book = Book(self.program)

    def ask(self, text):
        return self.book.ask(read_place(text))

    def refused(self, row, *lines):
        """Edits that are refused and change nothing."""
        paper = self.ask("row 11")
        searched = self.book.searched
        program, text = self.book.program, write_program(self.book.program)
        for line in lines:
            with self.assertRaises(BadEdit, msg=(row, line)):
                self.book.edit(row, line)
            self.assertIs(self.book.program, program)
            self.assertEqual(write_program(program), text)
            self.assertIs(self.ask("row 11"), paper)
            self.assertEqual(self.book.searched, searched)


class AskTest(Case):

    def test_the_paper(self):
        paper = self.ask("row 15 then no 18")
        self.assertIsInstance(paper, Paper)
        self.assertTrue(paper.same(find_least(self.program, read_place("row 15 then no 18"))))
        self.assertEqual(paper.verdict, ("found", (5,)))
        self.assertEqual(self.ask("fault 8 range").verdict, ("none",))

    def test_twice(self):
        self.assertEqual(self.book.searched, 0)
        paper = self.ask("row 15")
        self.assertEqual(self.book.searched, 1)
        for _ in range(3):
            self.assertTrue(self.ask("row 15").same(paper))
            self.assertEqual(self.book.searched, 1)
        other = self.ask("row 14")
        self.assertEqual(self.book.searched, 2)
        self.assertFalse(other.same(paper))
        self.assertTrue(self.ask("row 15").same(paper))
        self.assertTrue(self.ask("row 14").same(other))
        self.assertEqual(self.book.searched, 2)

    def test_searched_belongs_to_one_book(self):
        other = Book(self.program)
        self.ask("row 15")
        self.assertEqual((self.book.searched, other.searched), (1, 0))
        other.ask(read_place("row 15"))
        self.assertEqual((self.book.searched, other.searched), (1, 1))

    def test_a_place_that_is_not_good(self):
        for place in ((), (("row", 1),), (("row", 13),), (("row", 99),), [("row", 15)], (("row", 15),) * 4,
                      (("fault", 18, "turns"),), (("when", 8, "<", ("var", "c", 0), ("num", 3)),)):
            with self.assertRaises(BadPlace):
                self.book.ask(place)
        self.assertEqual(self.book.searched, 0)
        self.ask("row 15")
        with self.assertRaises(BadPlace):
            self.book.ask([("row", 15)])
        self.assertEqual(self.book.searched, 1)

    def test_a_search_that_is_too_wide(self):
        rows = checks_of(4096)
        book = Book(program_of(*rows))
        for _ in range(2):
            with self.assertRaises(TooWide):
                book.ask((("row", len(rows)),))
            self.assertEqual(book.searched, 0)
        self.assertEqual(book.ask((("row", 3),)).verdict, ("found", (0,)))
        self.assertEqual(book.searched, 1)
        book.edit(len(rows) - 1, "skip")
        self.assertEqual(book.ask((("row", len(rows)),)).verdict, ("found", (0,)))
        self.assertEqual(book.searched, 2)

    def test_a_program_that_is_not_good(self):
        check_refusals(self, Book)


class EditTest(Case):

    def edited(self, row, line):
        """The text of the book's program behind an edit of a row."""
        text = write_program(self.book.program).split("\n")
        self.assertIsNone(self.book.edit(row, line))
        found = write_program(self.book.program).split("\n")
        self.assertEqual([at for at in range(len(text)) if at + 1 != row and text[at] != found[at]], [])
        self.assertEqual(len(found), len(text))
        return found[row - 1].strip()

    def test_each_kind_of_row(self):
        for row, line, written in (
            (3, "if x==2 or x>5", "if x == 2 or x > 5"), (4, "return 7", "return 7"),
            (10, "  if not a<5", "if not a < 5"),
            (8, "let c = 3", "let c = 3"), (8, " let  c from -1 to 30=a", "let c from -1 to 30 = a"),
            (9, "list ys 5 = a + 1", "list ys 5 = a + 1"), (14, "while c < 8 at most 8", "while c < 8 at most 8"),
            (11, "c = 5", "c = 5"), (11, "ys[2] = 5", "ys[2] = 5"), (11, "check a < 3", "check a < 3"),
            (11, "refuse odd", "refuse odd"), (11, "answer 3", "answer 3"), (11, "skip", "skip"),
            (11, "c = f(3)", "c = f(3)"),
            (12, "c = f(a)", "c = f(a)"), (15, "answer c", "answer c"), (18, "skip", "skip"),
            (18, "refuse odd", "refuse odd"),
            (18, "c = f(c+1)", "c = f(c + 1)"), (19, "check c < 3", "check c < 3"), (6, "x = 3", "x = 3"),
            (6, "refuse odd", "refuse odd"), (6, "skip", "skip"), (6, "return x - 1", "return x - 1"),
            (15, "skip", "skip"), (15, "c = c + 1", "c = c + 1"),
        ):
            self.assertEqual(self.edited(row, line), written)
            check_program(self.book.program)
            self.assertTrue(self.book.program.same(read_program(write_program(self.book.program))))

    def test_the_blocks_stay(self):
        self.book.edit(10, "if a > 7")
        self.book.edit(14, "while c < 3 at most 1")
        rows = [row.strip() for row in ROWS]
        rows[9], rows[13] = "if a > 7", "while c < 3 at most 1"
        self.assertTrue(self.book.program.same(program_of(*rows)))

    def test_a_new_program_after_each_edit(self):
        self.assertTrue(self.book.program.same(self.program))
        text = write_program(self.program)
        before = self.book.program
        self.book.edit(18, "check c != 8")
        after = self.book.program
        self.assertIsNot(after, before)
        self.assertEqual(write_program(before), text)
        self.assertEqual(write_program(self.program), text)
        self.book.edit(18, "check c != 8")
        self.assertIsNot(self.book.program, after)
        self.assertTrue(self.book.program.same(after))
        self.assertFalse(self.book.program.same(before))

    def test_an_edit_is_no_search(self):
        self.ask("row 15")
        self.book.edit(18, "check c != 8")
        self.assertEqual(self.book.searched, 1)

    def test_rows_of_no_statement(self):
        for row in (-1, 0, 1, 2, 5, 7, 13, 16, 17, 20, 99):
            self.refused(
                row, "skip", "input a from 0 to 9", "def f(x)", "end", "else", "if a < 3", "while a < 3 at most 2",
                "let c = 3", "list ys 3 = c", "return x", "answer a")

    def test_lines_that_are_no_statement(self):
        lines = (
            "", " ", "else", "end", "input b from 0 to 9", "def g()", "c", "c =", "c == 3", "skip skip", "c = 3\n",
            "c = 3\nskip",
            "\nskip", "c = 3 # odd", "C = 3", "check", "check a", "check a < ", "refuse", "refuse if", "answer",
            "c = f(a",
            "c = ys[ys[0]]", "c = a + a", "c = 01", "if a < 3 skip", "row 3", "skip\t", "c = 3;", "check (a < 3",
        )
        for row in (4, 11, 12, 18, 19):
            self.refused(row, *lines)

    def test_lines_of_another_sort(self):
        plain = ("c = 3", "ys[0] = 3", "c = f(a)", "check a < 3", "refuse odd", "answer 3", "skip", "return 3")
        heads = ("if a < 3", "while a < 3 at most 2", "let c = 3", "let d = 3", "list ys 3 = c", "list zs 3 = c")
        self.refused(10, *plain, *heads[1:])
        self.refused(3, "while x < 3 at most 2", "return x", "let x = 3", "skip")
        self.refused(14, *plain, heads[0], *heads[2:])
        self.refused(8, *plain, *heads[:2], *heads[3:])
        self.refused(9, *plain, *heads[:4], heads[5])
        for row in (11, 12, 15, 18, 19):
            self.refused(row, *heads)
        for row in (4, 6):
            self.refused(row, "if x < 3", "while x < 3 at most 2", "let c = 3", "list ys 3 = x")

    def test_another_name(self):
        self.refused(8, "let d = 3", "let d from 0 to 20 = a", "let a = 3", "let cc = 3", "let ys = 3")
        self.refused(9, "list zs 3 = c", "list c 3 = c", "list a 3 = c", "list y 3 = c")

    def test_a_program_that_is_not_good(self):
        self.refused(11, "a = 3", "d = 3", "c = d", "c = ys", "c = c[0]", "ys = 3", "return 3", "c = g(a)", "c = f()",
                     "c = f(a, a)", "c = 1000000", "c = a - 1000000", "refuse range", "refuse index", "refuse turns",
                     "check d < 3")
        self.refused(4, "answer 3", "return a", "x = c", "x = f(x)")
        self.refused(8, "let c from 5 to 4 = a", "let c from 0 to 1000000001 = a", "let c = c", "let c = ys[0]")
        self.refused(9, "list ys 7 = c", "list ys 0 = c", "list ys 3 = ys[0]")
        self.refused(10, "if x < 3", "if not not not not not a < 3", "if " + " or ".join(["a < 3"] * 7))
        self.refused(14, "while c < 9 at most 9", "while c < 9 at most 0")

    def test_a_program_that_is_too_long(self):
        rows = [HEAD, "def f()", *["skip"] * 8, "end", "let c = 0"] + ["while a < 3 at most 8"] * 2 + ["c = f()"]
        self.book = Book(program_of(*rows, "skip", "end", "end", "while a < 1 at most 5", *["skip"] * 35, "end"))
        self.book.ask((("row", 15),))
        for row, line in ((16, "c = f()"), (19, "while a < 1 at most 8")):
            with self.assertRaises(BadEdit):
                self.book.edit(row, line)
        self.book.ask((("row", 15),))
        self.assertEqual(self.book.searched, 1)
        self.book.edit(19, "while a < 1 at most 7")
        self.book.edit(15, "skip")
        self.book.edit(16, "c = f()")
        with self.assertRaises(BadEdit):
            self.book.edit(15, "c = f()")


class KeptTest(Case):
    """Which papers an edit drops."""

    def check(self, text, row, line, kept):
        """Asks for a place, edits a row, and asks again: the paper is searched for again or it was kept."""
        before = self.ask(text)
        was = told(before)
        searched = self.book.searched
        self.book.edit(row, line)
        place = read_place(text)
        after = self.book.ask(place)
        self.assertEqual(self.book.searched, searched + (not kept), (text, row, line))
        self.assertEqual(told(before), was)
        self.assertEqual(after.text, write_program(self.book.program))
        self.assertEqual(after.subject, before.subject)
        self.assertIs(check_paper(self.book.program, place, after), True)
        self.assertTrue(after.same(find_least(self.book.program, place)))
        if kept:
            self.assertEqual((after.verdict, after.tokens), (before.verdict, before.tokens))

    def test_a_row_that_began(self):
        self.check("row 15", 14, "while c < 8 at most 4", False)
        self.check("row 15", 10, "if a < 4", False)
        self.check("row 15", 8, "let c from 0 to 20 = a + 1", False)
        self.check("row 15", 3, "if x < 2", False)
        self.check("row 12", 11, "c = f(1)", False)

    def test_a_row_that_did_not_begin(self):
        self.check("row 10", 10, "if a < 4", False)
        self.check("row 10", 11, "c = 3", True)
        self.check("row 10", 18, "skip", True)
        self.check("row 10", 3, "if x > 100", True)
        self.check("row 9", 19, "answer a", True)
        self.check("yes 10", 14, "while c < 8 at most 4", False)

    def test_an_edit_that_changes_nothing(self):
        self.check("row 10", 9, "list ys 3 = c", False)
        self.check("row 10", 10, "if a<5", False)
        self.check("row 10", 11, "c = f(c)", True)
        self.check("row 15", 8, "let c from 0 to 20 = a", False)

    def test_a_row_whose_beginning_met_the_place(self):
        self.check("row 8", 8, "let c from 0 to 20 = a + 1", False)
        self.check("row 8", 9, "list ys 4 = a", True)
        self.check("when 9: c > 3", 9, "list ys 4 = a", False)
        self.check("row 12", 12, "ys[0] = 3", False)

    def test_a_row_that_began_where_the_place_is_not_met(self):
        # The search goes through the else, too, and finds nothing there.
        self.check("row 12", 15, "c = c + 2", False)
        self.check("row 12", 18, "skip", False)

    def test_a_row_that_began_behind_the_place_alone(self):
        self.check("no 10", 15, "c = c + 2", True)
        self.check("row 8 then row 9", 10, "if a > 7", True)
        self.check("row 8 then row 10", 10, "if a > 7", False)

    def test_a_row_that_began_on_a_dead_way_alone(self):
        rows = [HEAD, "check a >= 0", "if a > 9", "skip", "refuse odd", "end", "if a < 4", "skip", "end", "answer a"]
        self.book = Book(program_of(*rows))
        self.check("row 10", 4, "answer 3", True)
        self.check("row 10", 5, "skip", True)
        self.check("row 10", 3, "if a >= 9", False)
        self.check("row 10", 4, "skip", False)

    def test_rows_of_a_function(self):
        rows = [HEAD, "def f(x)", "return x + 1", "end", "def g(x)", "x = f(x)", "return x", "end", "let c = 0",
                "if a > 3", "c = g(a)", "end", "check c < 7"]
        self.book = Book(program_of(*rows))
        self.check("yes 10", 3, "return x + 2", True)
        self.check("row 13", 3, "return x + 3", False)
        self.check("row 10", 3, "return x + 1", True)
        self.check("row 10", 6, "skip", True)
        self.check("fault 13 check", 6, "x = x + 5", False)
        # Nothing calls f now.
        self.check("fault 13 check", 3, "return 0", True)
        self.check("row 3", 3, "return 1", True)

    def test_a_place_that_is_no_longer_good(self):
        self.ask("row 10")
        for row, before, after, text in (
            (15, "c = c + 1", "skip", "row 9 then fault 15 range"),
            (18, "check c != 9", "skip", "row 9 then fault 18 check"),
            (14, "while c < 9 at most 4", "while c < 9 at most 3", "row 9 then turn 14 4"),
            (19, "answer ys[1]", "answer c", "row 9 then fault 19 index"),
            (18, "check c != 9", "refuse odd", "row 9 then no 18"),
        ):
            rows = list(ROWS[:9]) + ["answer c"] + list(ROWS[9:])
            self.book = Book(program_of(*[line.strip() for line in rows]))
            place = read_place(text.replace(str(row), str(row + 1)))
            paper = self.book.ask(place)
            self.assertEqual(paper.verdict, ("none",))
            self.book.edit(row + 1, after)
            with self.assertRaises(BadPlace):
                self.book.ask(place)
            self.assertEqual(self.book.searched, 1)
            # It was dropped, so it is not there again when the place is good again.
            self.book.edit(row + 1, before)
            again = self.book.ask(place)
            self.assertEqual(self.book.searched, 2)
            self.assertTrue(again.same(paper))

    def test_a_when_that_is_no_longer_good(self):
        rows = [HEAD, "answer a", "list ys 3 = a", "let c from 0 to 9 = a", "refuse odd", "skip"]
        self.book = Book(program_of(*rows))
        for text in ("row 2 then when 6: ys[c] == c", "row 2 then fault 5 odd", "row 2 then fault 4 range", "row 2"):
            self.ask(text)
        self.book.edit(5, "refuse bad")
        self.assertEqual(self.book.searched, 4)
        self.ask("row 2")
        self.ask("row 2 then when 6: ys[c] == c")
        self.ask("row 2 then fault 4 range")
        self.assertEqual(self.book.searched, 4)
        with self.assertRaises(BadPlace):
            self.ask("row 2 then fault 5 odd")
        self.book.edit(4, "let c = a")
        with self.assertRaises(BadPlace):
            self.ask("row 2 then fault 4 range")
        self.ask("row 2 then when 6: ys[c] == c")
        self.assertEqual(self.book.searched, 4)
        self.ask("row 2 then fault 5 bad")
        self.assertEqual(self.book.searched, 5)

    def test_the_papers_that_stay_have_the_new_text(self):
        first = self.ask("row 10")
        old = told(first)
        self.book.edit(18, "check c != 8")
        second = self.ask("row 10")
        self.book.edit(19, "skip")
        third = self.ask("row 10")
        self.assertEqual(self.book.searched, 1)
        self.assertEqual(told(first), old)
        self.assertIn("check c != 8", second.text)
        self.assertIn("answer ys[1]", second.text)
        self.assertNotIn("answer ys[1]", third.text)
        self.assertEqual(third.text, write_program(self.book.program))

    def test_an_edit_that_is_refused_drops_nothing(self):
        paper = self.ask("row 15")
        for row, line in ((14, "skip"), (15, "d = 3"), (10, "if a"), (8, "let d = a"), (99, "skip")):
            with self.assertRaises(BadEdit):
                self.book.edit(row, line)
        self.assertTrue(self.ask("row 15").same(paper))
        self.assertEqual(self.book.searched, 1)

    def test_many_edits(self):
        chance = random.Random(9)
        stayed = dropped = 0
        for number, program in enumerate(PROGRAMS):
            book = Book(program)
            places = some_places(program, 5, number)
            began = {}
            for _ in range(6):
                for place in places:
                    stayed, dropped = self.look(book, place, began, stayed, dropped)
                row, line = self.some_edit(book.program, chance)
                text = write_program(book.program)
                try:
                    book.edit(row, line)
                except BadEdit:
                    self.assertEqual(write_program(book.program), text)
                    continue
                for place in list(began):
                    if row in began[place] or not self.is_good(book.program, place):
                        del began[place]
        self.assertGreater(stayed, 100)
        self.assertGreater(dropped, 100)

    def look(self, book, place, began, stayed, dropped):
        """Asks the book for a place; began has the rows of the searches whose papers must be there."""
        if not self.is_good(book.program, place):
            with self.assertRaises(BadPlace):
                book.ask(place)
            return stayed, dropped
        searched = book.searched
        paper = book.ask(place)
        self.assertEqual(book.searched, searched + (place not in began))
        self.assertTrue(paper.same(find_least(book.program, place)))
        self.assertEqual(paper.verdict, verdict_of_all(book.program, place))
        self.assertTrue(check_paper(book.program, place, paper))
        if place in began:
            return stayed + 1, dropped
        began[place] = explore(PlaceWalk(book.program, place))[2]
        return stayed, dropped + 1

    def is_good(self, program, place):
        try:
            check_place(program, place)
        except BadPlace:
            return False
        return True

    def some_edit(self, program, chance):
        """A row and a line that may take its place, if the program stays good."""
        statement = chance.choice(statements_of(program))
        if statement[0] in ("if", "while", "let", "list"):
            line = write_statement(statement)
            old, new = chance.choice(["<", ">", "==", "1", "2"]), chance.choice(["!=", ">=", "3"])
            return statement[1], line.replace(old, new)
        lines = [write_statement(other) for other in statements_of(program)
                 if other[0] not in ("if", "while", "let", "list")]
        return statement[1], chance.choice(lines + ["skip", "refuse odd", "check 1 < 2", "check 2 < 1"])


if __name__ == "__main__":
    unittest.main()
