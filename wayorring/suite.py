"""Inputs that reach all events, and papers for what no run reaches."""

from wayorring.papers import Paper, verdict_of
from wayorring.places import standing, write_place
from wayorring.survey import reachable, set_of, survey_program, survey_tree
from wayorring.writer import write_program


def make_suite(program):
    """The suite of a program, a list of tuples. Raises as survey_program does."""
    ways = survey_program(program)
    held = [set_of(way) for way in ways]
    chosen = _chosen_ways(held)
    return needed_inputs([ways[number].least for number in chosen], [held[number] for number in chosen])


def needed_inputs(suite, held):
    """The list of the inputs that stay when, from the last to the first, each one is left out without which the
    others that are still there hold as much. held tells for each input the list of what it holds, each once."""
    counts = {}
    for goals in held:
        for goal in goals:
            counts[goal] = counts.get(goal, 0) + 1
    kept = []
    for number in reversed(range(len(suite))):
        if all([counts[goal] > 1 for goal in held[number]]):
            for goal in held[number]:
                counts[goal] -= 1
        else:
            kept.append(suite[number])
    return kept[::-1]


def unreachable(program):
    """A list with a tuple (atom, paper) for each standing atom that no run reaches. Raises as survey_program does."""
    ways, tokens = survey_tree(program)
    reached = {event: True for event in reachable(ways)}
    text = write_program(program)
    found = []
    for atom in standing(program):
        if atom not in reached:
            # Where the atom is never met, the tree of its place is the one in which no place is looked for.
            found.append((atom, Paper(text, ("place", write_place((atom,))), verdict_of(None), tokens)))
    return found


def _chosen_ways(held):
    """The numbers of the ways that are added one after the other until all events are reached."""
    chosen = []
    missing = held
    sizes = [len(events) for events in missing]
    while max(sizes) > 0:
        number = sizes.index(max(sizes))
        chosen.append(number)
        reached = {event: True for event in held[number]}
        missing = [[event for event in events if event not in reached] for events in missing]
        sizes = [len(events) for events in missing]
    return chosen
