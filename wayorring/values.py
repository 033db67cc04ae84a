"""The values of expressions and conditions."""


def value_of(expression, variables):
    """The integer, or None if an index is outside."""
    if expression[0] == "num":
        return expression[1]
    if expression[0] == "var":
        _, name, plus = expression
        return variables[name] + plus
    _, name, index, plus = expression
    items = variables[name]
    at = value_of(index, variables)
    if not 0 <= at < len(items):
        return None
    return items[at] + plus


def truth_of(condition, variables):
    """True or False, or None if an index that is needed is outside."""
    if condition[0] == "cmp":
        return _comparison_truth(condition, variables)
    if condition[0] == "not":
        truth = truth_of(condition[1], variables)
        return None if truth is None else not truth
    ending = condition[0] == "or"
    for part in condition[1]:
        truth = truth_of(part, variables)
        if truth is None or truth == ending:
            return truth
    return not ending


def holds(sign, left, right):
    """True if a comparison of two integers holds, otherwise False."""
    if sign == "<":
        return left < right
    if sign == "<=":
        return left <= right
    if sign == ">":
        return left > right
    if sign == ">=":
        return left >= right
    if sign == "==":
        return left == right
    return left != right


def _comparison_truth(comparison, variables):
    _, sign, left, right = comparison
    first = value_of(left, variables)
    second = value_of(right, variables)
    if first is None or second is None:
        return None
    return holds(sign, first, second)
