"""The survey of a program."""

from wayorring.chains import keeps
from wayorring.checks import check_program
from wayorring.tours import OVER, Tour
from wayorring.walks import PlaceWalk


class Way:
    """A way to the end of a run: all its differences, their least values, and the run's events and outcome."""

    def __init__(self, differences, least, events, outcome):
        self.differences = differences
        self.least = least
        self.events = events
        self.outcome = outcome


def survey_program(program):
    """The list of the ways that are not dead, in the order of the tree. Raises BadProgram, TooLong or TooWide."""
    return survey_tree(program)[0]


def survey_tree(program):
    """The list of the ways, and the tokens of the tree in which no place is looked for."""
    check_program(program)
    tour = Tour(PlaceWalk(program, ()))
    ways = []
    tokens = []
    token = tour.step()
    while token is not None:
        tokens.append(token)
        if token == OVER:
            ways.append(_way_at(tour))
        token = tour.step()
    return ways, tuple(tokens)


def way_of(ways, inputs):
    """The number of the way whose differences the inputs keep, or None if there is none."""
    for number, way in enumerate(ways):
        if keeps(way.differences, inputs):
            return number
    return None


def reachable(ways):
    """The ascending list of the events of all ways, each once."""
    return sorted({event for way in ways for event in way.events})


def set_of(way):
    """The set of the events of a way, as a tuple in ascending order."""
    return tuple(sorted(set(way.events)))


def _way_at(tour):
    walk = tour.walk
    return Way(tuple(walk.differences), tuple(tour.system.least_values()), tuple(walk.run.events), walk.run.outcome)
