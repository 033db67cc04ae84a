"""Searching for least inputs."""

from wayorring.checks import check_program
from wayorring.papers import Paper, verdict_of
from wayorring.places import check_place, write_place
from wayorring.tours import Tour
from wayorring.walks import PlaceWalk
from wayorring.writer import write_program


def explore(walk):
    """(tokens, found, rows) of the tree from the walk's point on: its tokens, the least input or None, and the
    ascending list of the rows that began on ways that are not dead. Raises TooWide. The walk is used up."""
    tour = Tour(walk)
    tokens = []
    found = None
    rows = {}
    token = tour.step()
    while token is not None:
        tokens.append(token)
        if token[0] == "met":
            found = _lesser(found, tuple(tour.system.least_values()))
        # Each way that is not dead leads to such an end, and the run there has all events since the beginning.
        if token[0] in ("met", "over"):
            rows.update({event[1]: True for event in tour.walk.run.events if event[0] == "row"})
        token = tour.step()
    return tuple(tokens), found, sorted(rows)


def find_least(program, place):
    """The Paper of the search for a place. Raises BadProgram or TooLong, then BadPlace, then TooWide."""
    check_program(program)
    return search_place(program, place)[0]


def search_place(program, place):
    """The Paper of a search in a good program, and the rows that began in it. Raises BadPlace, then TooWide."""
    check_place(program, place)
    tokens, found, rows = explore(PlaceWalk(program, place))
    return Paper(write_program(program), ("place", write_place(place)), verdict_of(found), tokens), rows


def _lesser(found, values):
    """The lesser one of two inputs, the first of which may be None."""
    return values if found is None else min(found, values)
