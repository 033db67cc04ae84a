"""Expressions and conditions over forms, with the questions that they ask."""

from wayorring.values import joined_truth
from wayorring.ways import compare_ways, index_ways


class Answers:
    """The results of the ways that were taken at the questions of one task, in order.

    A task is carried out from its beginning after each of its questions, with one result more, so that nothing
    has to be kept of a task that stands still. question has the ways of the first question without a result, if
    the task came so far; otherwise it is None.
    """

    def __init__(self, results):
        self.question = None
        self._results = results
        self._used = 0

    def result_of(self, ways):
        """The result of the way that is gone, or None if this question stands open now."""
        if len(ways) == 1:
            return ways[0][0]
        if self._used == len(self._results):
            self.question = ways
            return None
        self._used += 1
        return self._results[self._used - 1]


def form_of(expression, variables, answers):
    """The form of an expression, or None if an index is outside or a question stands open."""
    if expression[0] == "num":
        return (0, expression[1])
    if expression[0] == "var":
        _, name, plus = expression
        return _added(variables[name], plus)
    _, name, index, plus = expression
    items = variables[name]
    at = item_number(index, items, variables, answers)
    return None if at is None else _added(items[at], plus)


def item_number(index, items, variables, answers):
    """The number of the item that an index tells, or None if it is outside or a question stands open."""
    at = answers.result_of(index_ways(form_of(index, variables, answers), len(items)))
    return at if at is not None and 0 <= at < len(items) else None


def form_truth(condition, variables, answers):
    """The truth of a condition, or None if an index that is needed is outside or a question stands open."""
    return joined_truth(condition, lambda comparison: _comparison_truth(comparison, variables, answers))


def _comparison_truth(comparison, variables, answers):
    _, sign, left, right = comparison
    first = form_of(left, variables, answers)
    if first is None:
        return None
    second = form_of(right, variables, answers)
    return None if second is None else answers.result_of(compare_ways(sign, first, second))


def _added(form, plus):
    return form[0], form[1] + plus
