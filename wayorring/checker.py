"""Checking papers without searching."""

from wayorring.chains import floor_value, is_ring
from wayorring.checks import is_good
from wayorring.meaning import is_input, run_program
from wayorring.places import place_is_good, write_place
from wayorring.walks import PlaceWalk
from wayorring.writer import write_program


def follow(walk, tokens):
    """Goes along the tokens from the walk's point on. The list of the lists of values that the floors show, one for
    each "met", or None if the tokens are not accepted. The walk is used up."""
    trail = Trail(walk)
    for token in tokens:
        if not trail.take(token):
            return None
    return trail.shown if trail.is_done() else None


def check_paper(program, place, paper):
    """True if the paper is accepted for the program and the place, otherwise False."""
    if not is_good(program) or not place_is_good(program, place):
        return False
    if paper.text != write_program(program) or paper.subject != ("place", write_place(place)):
        return False
    if paper.verdict != ("none",):
        if not tells_input(program, paper.verdict):
            return False
        if run_program(program, paper.verdict[1], place=place).met is None:
            return False
    return shows_verdict(PlaceWalk(program, place), paper)


def tells_input(program, verdict):
    """True if a verdict is "found" with an input of the program, otherwise False."""
    return len(verdict) == 2 and verdict[0] == "found" and is_input(program, verdict[1])


def shows_verdict(walk, paper):
    """True if the paper's tokens are accepted from the walk's point on, and show nothing below its verdict."""
    shown = follow(walk, paper.tokens)
    if shown is None:
        return False
    if paper.verdict == ("none",):
        return not shown
    least = list(paper.verdict[1])
    return all([values >= least for values in shown])


class Trail:
    """Goes through the tree of a walk as tokens tell, without searching.

    shown is the list of the lists of values so far. What is to come are ways that were not told yet, the next one
    last: tuples of the walk that stands at their question and their number there. The walk of the trail is one that
    is over or has met the place while this was not told yet, otherwise None.
    """

    def __init__(self, walk):
        self.shown = []
        self._coming = []
        self._walk = None
        self._go_on(walk)

    def is_done(self):
        """True if the tree ends here."""
        return self._walk is None and not self._coming

    def take(self, token):
        """Goes along the next token. False if it is not accepted; then no more is taken."""
        if self._walk is not None:
            return self._end(token)
        return bool(self._coming) and self._take_way(token)

    def _go_on(self, walk):
        """Goes on to the next question, or to the end."""
        if walk.advance() != "ask":
            self._walk = walk
            return
        for number in reversed(range(len(walk.ways()))):
            self._coming.append((walk, number))

    def _end(self, token):
        walk = self._walk
        self._walk = None
        if walk.advance() == "over":
            return token == ("over",)
        if len(token) != 2 or token[0] != "met":
            return False
        values = _shown_values(walk, token[1])
        self.shown.append(values)
        return values is not None

    def _take_way(self, token):
        walk, number = self._coming.pop()
        if token == ("on",):
            behind = walk.twin()
            behind.take(number)
            self._go_on(behind)
            return True
        if len(token) != 2 or token[0] != "dead":
            return False
        return is_ring([*walk.differences, *walk.ways()[number]], token[1])


def _shown_values(walk, floors):
    """The list of the values that the floors show, or None if they are not a floor for each unknown."""
    if len(floors) != walk.many:
        return None
    values = [floor_value(walk.differences, floor, k) for k, floor in enumerate(floors, start=1)]
    return None if None in values else values
