"""Walks through the tree of a program and a place."""

from wayorring.formrun import FormRun
from wayorring.forms import Answers, form_truth
from wayorring.watch import Watch


def range_differences(program):
    """The list of the differences that the ranges of the unknowns make, two for each unknown."""
    found = []
    for k, (lo, hi) in enumerate(program.unknowns, start=1):
        found.extend([(k, 0, hi), (0, k, -lo)])
    return found


class PlaceWalk:
    """A point of the tree, at first its beginning.

    The word is what advance has come to, None while it goes on. The results are None unless a "when" is evaluated
    at the event that was added last; then they are those of the ways that were taken for it.
    """

    def __init__(self, program, place):
        self.many = len(program.unknowns)
        self.differences = range_differences(program)
        self.run = FormRun(program)
        self._program = program
        self._watch = Watch(place)
        self._question = None
        self._results = None
        self._word = None

    def advance(self):
        """Goes on to the next question, to the point where the place is met, or to the end of the run."""
        while self._word is None:
            if self._results is None:
                self._advance_run()
            else:
                self._evaluate_when()
        return self._word

    def ways(self):
        """The list of the differences of the open question's ways."""
        return [differences for result, differences in self._question]

    def take(self, number):
        """Goes the way with this number of the open question."""
        result, differences = self._question[number]
        self.differences.extend(differences)
        if self._results is None:
            self.run.take(number)
        else:
            self._results.append(result)
        self._question = None
        self._word = None

    def twin(self):
        """A copy that goes on by itself."""
        other = PlaceWalk(self._program, ())
        other.differences = list(self.differences)
        other.run = self.run.twin()
        other._watch = self._watch.twin()
        other._question = self._question
        other._results = None if self._results is None else list(self._results)
        other._word = self._word
        return other

    def _advance_run(self):
        """Lets the run go on by an event or to its next question."""
        word = self.run.advance()
        if word == "over":
            self._word = "over"
        elif word == "ask":
            self._wait_at(self.run.question)
        elif self._watch.wanted(self.run.events[-1]) is None:
            self._see(False)
        else:
            self._results = []

    def _evaluate_when(self):
        """Evaluates the comparison that is wanted, or comes to its next question."""
        wanted = self._watch.wanted(self.run.events[-1])
        answers = Answers(self._results)
        truth = form_truth(("cmp", *wanted), self.run.variables, answers)
        if answers.question is None:
            # Without a truth an index is outside, and the comparison does not hold.
            self._results = None
            self._see(truth is True)
        else:
            self._wait_at(answers.question)

    def _see(self, truth):
        """Looks at the event that was added last."""
        if self._watch.see(self.run.events[-1], truth):
            self._word = "met"

    def _wait_at(self, question):
        self._question = question
        self._word = "ask"
