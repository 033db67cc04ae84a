"""Telling two programs apart."""

from wayorring.changes import list_changes
from wayorring.checker import shows_verdict, tells_input
from wayorring.checks import check_program, is_good
from wayorring.errors import BadPair
from wayorring.formrun import FormRun
from wayorring.meaning import run_program
from wayorring.papers import Paper, verdict_of
from wayorring.search import explore
from wayorring.suite import make_suite, needed_inputs
from wayorring.walks import range_differences
from wayorring.ways import compare_ways
from wayorring.writer import write_program


class PairWalk:
    """A point of the tree of two programs, at first its beginning.

    The word is what advance has come to, None while it goes on. The outcome is that of the first program, None
    until its run is over.
    """

    def __init__(self, first, second):
        self.many = len(first.unknowns)
        self.differences = range_differences(first)
        self.run = FormRun(first)
        self._first = first
        self._second = second
        self._outcome = None
        self._question = None
        self._word = None

    def advance(self):
        """Goes on to the next question ("ask") or to the end, where the outcomes are unlike ("met") or not ("over")."""
        while self._word is None:
            word = self.run.advance()
            if word == "ask":
                self._wait_at(self.run.question)
            elif word == "over":
                self._go_behind_run()
        return self._word

    def ways(self):
        """The list of the differences of the open question's ways."""
        return [differences for result, differences in self._question]

    def take(self, number):
        """Goes the way with this number of the open question."""
        result, differences = self._question[number]
        self.differences.extend(differences)
        self._question = None
        if self.run.question is None:
            # Both runs are over, so this was the comparison of their answers.
            self._end(result)
        else:
            self._word = None
            self.run.take(number)

    def twin(self):
        """A copy that goes on by itself."""
        other = PairWalk(self._first, self._second)
        other.differences = list(self.differences)
        other.run = self.run.twin()
        other._outcome = self._outcome
        other._question = self._question
        other._word = self._word
        return other

    def _go_behind_run(self):
        """Begins the second run behind the first one, or compares the outcomes behind the second."""
        if self._outcome is None:
            self._outcome = self.run.outcome
            self.run = FormRun(self._second)
            return
        outcome = self.run.outcome
        if self._outcome[0] == "answer" and outcome[0] == "answer":
            ways = compare_ways("!=", self._outcome[1], outcome[1])
            if len(ways) > 1:
                self._wait_at(ways)
            else:
                self._end(ways[0][0])
        else:
            self._end(_are_unlike(self._outcome, outcome))

    def _wait_at(self, question):
        self._question = question
        self._word = "ask"

    def _end(self, unlike):
        self._word = "met" if unlike else "over"


def tell_apart(first, second):
    """The Paper with the least input whose outcomes are unlike. Raises BadProgram or TooLong, BadPair, TooWide."""
    check_program(first)
    check_program(second)
    if not _can_be_compared(first, second):
        raise BadPair("the unknowns have other ranges")
    tokens, found, rows = explore(PairWalk(first, second))
    return Paper(write_program(first), ("apart", write_program(second)), verdict_of(found), tokens)


def check_apart(first, second, paper):
    """True if the paper is accepted for the two programs, otherwise False."""
    if not is_good(first) or not is_good(second) or not _can_be_compared(first, second):
        return False
    if paper.text != write_program(first) or paper.subject != ("apart", write_program(second)):
        return False
    if paper.verdict != ("none",):
        if not tells_input(first, paper.verdict):
            return False
        inputs = paper.verdict[1]
        if not _are_unlike(run_program(first, inputs).outcome, run_program(second, inputs).outcome):
            return False
    return shows_verdict(PairWalk(first, second), paper)


def score_changes(program, inputs):
    """A list that tells for each change whether one of the inputs makes the outcomes unlike.

    Raises BadProgram or TooLong, then BadInput if one of them is not an input of the program.
    """
    check_program(program)
    outcomes = [run_program(program, each).outcome for each in inputs]
    return [_is_told_apart(change, inputs, outcomes) for change in list_changes(program)]


def strong_suite(program):
    """A list of tuples that reach all events and tell apart all changes, as far as this can be done."""
    suite = make_suite(program)
    changes = list_changes(program)
    outcomes = [run_program(program, inputs).outcome for inputs in suite]
    for change in changes:
        if not _is_told_apart(change, suite, outcomes):
            tokens, found, rows = explore(PairWalk(program, change.program))
            if found is not None:
                suite.append(found)
                outcomes.append(run_program(program, found).outcome)
    return needed_inputs(suite, [_goals_of(program, changes, inputs) for inputs in suite])


def _goals_of(program, changes, inputs):
    """The list of what an input does: the events of its run, and the numbers of the changes that it tells apart."""
    run = run_program(program, inputs)
    told = [_is_told_apart(change, [inputs], [run.outcome]) for change in changes]
    return sorted(set(run.events)) + [number for number, apart in enumerate(told) if apart]


def _is_told_apart(change, inputs, outcomes):
    """True if one of the inputs, whose outcomes are known, has another one in the changed program."""
    for each, outcome in zip(inputs, outcomes):
        if _are_unlike(outcome, run_program(change.program, each).outcome):
            return True
    return False


def _can_be_compared(first, second):
    return first.unknowns == second.unknowns


def _are_unlike(one, other):
    """True if two outcomes are unlike; the values of answers are integers."""
    if one[0] == "fault" and other[0] == "fault":
        return one[2] != other[2]
    return one != other
