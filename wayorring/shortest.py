"""Shortest suites, with papers that show that they are."""

from wayorring.errors import TooWide
from wayorring.survey import reachable, set_of, survey_program

MOST_SETS = 12


def greatest_sets(ways):
    """The list of the sets of events of ways that are no proper part of another way's set, each once and ascending."""
    return [events for events, way in _greatest_ways(ways)]


def shortest_suite(program):
    """(inputs, paper): a shortest suite, and a paper that one set fewer cannot hold all events.

    Raises as survey_program does, and TooWide if there are too many greatest sets.
    """
    greatest = _greatest_ways(survey_program(program))
    if len(greatest) > MOST_SETS:
        raise TooWide("there are too many greatest sets")
    sets = [events for events, way in greatest]
    papers = []
    nodes, chosen = _try_sets(sets, 0)
    while chosen is None:
        papers.append(nodes)
        nodes, chosen = _try_sets(sets, len(papers))
    return [greatest[number][1].least for number in chosen], papers[-1]


def check_shortest(sets, many, paper):
    """True if the paper shows that no so many of the sets, nor fewer, hold all events, otherwise False."""
    holders = _holders_of(sets)
    coming = [((), ())]
    for event in paper:
        if not coming or event not in holders:
            return False
        chosen, barred = coming.pop()
        if _one_is_in(chosen, holders[event]):
            return False
        coming.extend(_branches(chosen, barred, holders[event], many))
    return not coming


def _greatest_ways(ways):
    """A list of tuples: a greatest set, ascending, and the first way that has it."""
    bits = {event: 1 << number for number, event in enumerate(reachable(ways))}
    first = {}
    for way in ways:
        # A set as an integer with a bit for each event, since many sets may have to be compared.
        first.setdefault(sum([bits[event] for event in set_of(way)]), way)
    return [(set_of(way), way) for mask, way in first.items() if not _is_proper_part(mask, first)]


def _is_proper_part(mask, others):
    for other in others:
        if mask & other == mask and mask != other:
            return True
    return False


def _try_sets(sets, many):
    """(nodes, None) with the paper that so many sets cannot hold all events, or (None, chosen) with sets that do."""
    holders = _holders_of(sets)
    events = sorted(holders)
    coming = [((), ())]
    nodes = []
    while coming:
        chosen, barred = coming.pop()
        event = _first_missing(events, holders, chosen)
        if event is None:
            return None, chosen
        nodes.append(event)
        coming.extend(_branches(chosen, barred, holders[event], many))
    return nodes, None


def _first_missing(events, holders, chosen):
    """The first event that stands in no chosen set, or None if there is none."""
    for event in events:
        if not _one_is_in(chosen, holders[event]):
            return event
    return None


def _branches(chosen, barred, holders, many):
    """The branches of a node, tuples (chosen, barred) of numbers of sets, the first one last."""
    if len(chosen) == many:
        return []
    branches = []
    for number in holders:
        if number not in barred:
            branches.append(((*chosen, number), barred))
            barred = (*barred, number)
    return branches[::-1]


def _holders_of(sets):
    """A dict with the list of the numbers of the sets that hold an event, for each event that stands in a set."""
    holders = {}
    for number, events in enumerate(sets):
        for event in events:
            holders.setdefault(event, []).append(number)
    return holders


def _one_is_in(numbers, others):
    return any([number in others for number in numbers])
