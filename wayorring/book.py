"""Books of programs and papers."""

from wayorring.checks import check_program, is_good
from wayorring.errors import BadEdit
from wayorring.papers import Paper
from wayorring.places import check_place, place_is_good
from wayorring.program import statements_of, with_statement
from wayorring.rows import statement_of
from wayorring.search import search_place
from wayorring.words import split_row
from wayorring.writer import write_program

KEPT_SORTS = ("if", "while", "let", "list")


class Book:
    """A program whose rows may be edited, and the papers of the places that were asked for.

    The papers are kept by places, each with the rows that began in its search.
    """

    def __init__(self, program):
        check_program(program)
        self.program = program
        self._kept = {}
        self._searched = 0

    @property
    def searched(self):
        """The number of searches that ended with a paper."""
        return self._searched

    def ask(self, place):
        """The paper for a place, the kept one if there is one. Raises BadPlace, then TooWide."""
        check_place(self.program, place)
        if place not in self._kept:
            self._kept[place] = search_place(self.program, place)
            self._searched += 1
        paper, rows = self._kept[place]
        return paper

    def edit(self, row, line):
        """Puts a line in the place of a row. Raises BadEdit; then the book does not change."""
        program = _edited(self.program, row, line)
        text = write_program(program)
        kept = {}
        for place, (paper, rows) in self._kept.items():
            if row not in rows and place_is_good(program, place):
                kept[place] = Paper(text, paper.subject, paper.verdict, paper.tokens), rows
        self.program = program
        self._kept = kept


def _edited(program, row, line):
    """The program with a line in the place of a row. Raises BadEdit if this may not be."""
    words = split_row(line)
    new = statement_of(row, words) if words else None
    old = [statement for statement in statements_of(program) if statement[1] == row]
    if new is None or not old or not _are_of_one_sort(old[0], new):
        raise BadEdit("the row may not be edited so")
    edited = with_statement(program, new)
    if not is_good(edited):
        raise BadEdit("the edited program is not good")
    return edited


def _are_of_one_sort(old, new):
    if old[0] not in KEPT_SORTS and new[0] not in KEPT_SORTS:
        return True
    if old[0] != new[0]:
        return False
    return old[0] in ("if", "while") or old[2] == new[2]
