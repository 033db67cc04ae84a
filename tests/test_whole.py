import unittest

from samples import LATER
from wayorring.apart import check_apart, score_changes, strong_suite, tell_apart
from wayorring.book import Book
from wayorring.changes import list_changes
from wayorring.checker import check_paper
from wayorring.checks import check_program
from wayorring.meaning import run_program
from wayorring.papers import read_paper, write_paper
from wayorring.places import read_place, standing
from wayorring.reader import read_program
from wayorring.search import find_least
from wayorring.shortest import check_shortest, greatest_sets, shortest_suite
from wayorring.suite import make_suite, unreachable
from wayorring.survey import reachable, survey_program, way_of
from wayorring.writer import write_program

PLACES = (
    "row 13", "yes 12", "no 12", "turn 11 3", "fault 17 check", "fault 11 turns", "fault 10 range",
    "row 13 then row 13", "yes 12 then no 12 then yes 12", "row 5 then row 13 then row 18", "when 13: a > 3",
    "when 17: best > xs[0] + 2", "when 12: xs[i] == a then row 13", "when 4: x == 2 then row 18",
    "turn 11 3 then when 13: xs[2] > xs[1] + 9",
)


class WholeTest(unittest.TestCase):
    """The example of the document, from its text to the papers, the suites and the book."""

    def setUp(self):
        self.program = read_program(LATER)
        check_program(self.program)

    def test_the_written_form(self):
        self.assertEqual(write_program(self.program), LATER)

    def test_places(self):
        verdicts = {}
        for text in PLACES:
            place = read_place(text)
            paper = find_least(self.program, place)
            verdicts[text] = paper.verdict
            self.assertTrue(check_paper(self.program, place, paper))
            back = read_paper(write_paper(paper))
            self.assertTrue(back.same(paper))
            self.assertTrue(check_paper(self.program, place, back))
            if paper.verdict[0] == "found":
                self.assertIsNotNone(run_program(self.program, paper.verdict[1], place=place).met)
        self.assertEqual(verdicts["row 13"], ("found", (0, -5, -5, 1)))
        self.assertEqual(verdicts["no 12"], ("found", (0, -5, -5, -5)))
        self.assertEqual(verdicts["row 13 then row 13"], ("found", (0, -5, 1, 2)))
        self.assertEqual(verdicts["when 13: a > 3"], ("found", (4, -5, -5, 5)))
        self.assertEqual(verdicts["yes 12 then no 12 then yes 12"], ("found", (0, 1, -5, 2)))
        self.assertEqual(verdicts["turn 11 3 then when 13: xs[2] > xs[1] + 9"], ("found", (0, -5, -5, 5)))
        for text in ("fault 17 check", "fault 11 turns", "fault 10 range"):
            self.assertEqual(verdicts[text], ("none",))

    def test_survey_and_suites(self):
        ways = survey_program(self.program)
        found = {}
        for atom in standing(self.program):
            found[atom] = find_least(self.program, (atom,)).verdict[0] == "found"
            self.assertEqual(found[atom], atom in reachable(ways))
        never = [atom for atom in found if not found[atom]]
        self.assertEqual([atom for atom, paper in unreachable(self.program)], never)
        suite = make_suite(self.program)
        shortest, nodes = shortest_suite(self.program)
        sets = greatest_sets(ways)
        self.assertTrue(check_shortest(sets, len(shortest) - 1, nodes))
        for inputs in (suite, shortest, strong_suite(self.program)):
            events = {event for each in inputs for event in run_program(self.program, each).events}
            self.assertEqual(sorted(events), reachable(ways))
        for inputs in suite:
            self.assertEqual(ways[way_of(ways, inputs)].least, inputs)

    def test_changes(self):
        strong = strong_suite(self.program)
        scores = score_changes(self.program, strong)
        for change, score in zip(list_changes(self.program), scores):
            paper = tell_apart(self.program, change.program)
            self.assertEqual(score, paper.verdict[0] == "found")
            self.assertTrue(check_apart(self.program, change.program, paper))
        self.assertIn(True, scores)
        self.assertIn(False, scores)

    def test_a_book(self):
        book = Book(self.program)
        papers = [book.ask(read_place(text)) for text in PLACES]
        self.assertEqual(book.searched, len(PLACES))
        book.edit(13, "best = xs[i] - 1")
        for text, paper in zip(PLACES, papers):
            place = read_place(text)
            self.assertTrue(check_paper(self.program, place, paper))
            again = book.ask(place)
            self.assertTrue(check_paper(book.program, place, again))
            self.assertTrue(again.same(find_least(book.program, place)))
        self.assertEqual(write_program(self.program), LATER)


if __name__ == "__main__":
    unittest.main()
