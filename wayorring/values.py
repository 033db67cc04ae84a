"""The values of expressions and conditions."""


def value_of(expression, variables):
    """The integer, or None if an index is outside."""
    if expression[0] == "num":
        return expression[1]
    if expression[0] == "var":
        _, name, plus = expression
        return variables[name] + plus
    _, name, index, plus = expression
    items = variables[name]
    at = value_of(index, variables)
    if not 0 <= at < len(items):
        return None
    return items[at] + plus


def truth_of(condition, variables):
    """True or False, or None if an index that is needed is outside."""
    return joined_truth(condition, lambda comparison: _comparison_truth(comparison, variables))


def joined_truth(condition, judge):
    """The truth of a condition whose comparisons are judged, from left to right and only as far as needed.

    judge gives True or False for a comparison; where it gives None, the condition has no truth, and None is given.
    """
    if condition[0] == "cmp":
        return judge(condition)
    if condition[0] == "not":
        truth = joined_truth(condition[1], judge)
        return None if truth is None else not truth
    ending = condition[0] == "or"
    for part in condition[1]:
        truth = joined_truth(part, judge)
        if truth is None or truth == ending:
            return truth
    return not ending


def holds(sign, left, right):
    """True if a comparison of two integers holds, otherwise False."""
    if sign == "<":
        return left < right
    if sign == "<=":
        return left <= right
    if sign == ">":
        return left > right
    if sign == ">=":
        return left >= right
    if sign == "==":
        return left == right
    return left != right


def _comparison_truth(comparison, variables):
    _, sign, left, right = comparison
    first = value_of(left, variables)
    second = value_of(right, variables)
    if first is None or second is None:
        return None
    return holds(sign, first, second)
