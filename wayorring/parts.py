"""The parts of conditions and statements."""


def comparisons_of(condition):
    """The list of the comparisons of a condition, from left to right."""
    if condition[0] == "cmp":
        return [condition]
    found = []
    for part in _parts_of(condition):
        found.extend(comparisons_of(part))
    return found


def depth_of(condition):
    """How deep a condition is: 0 for a comparison, otherwise one more than its deepest part."""
    if condition[0] == "cmp":
        return 0
    return 1 + max([depth_of(part) for part in _parts_of(condition)])


def expressions_of(statement):
    """The list of the expressions of a statement's own row, with the index before "=", from left to right."""
    kind = statement[0]
    if kind in ("if", "while", "check"):
        return [side for comparison in comparisons_of(statement[2]) for side in comparison[2:]]
    if kind == "call":
        return list(statement[4])
    if kind == "put":
        return [statement[3], statement[4]]
    if kind in ("let", "list", "set", "answer", "return"):
        return [statement[-1]]
    return []


def _parts_of(condition):
    return (condition[1],) if condition[0] == "not" else condition[1]
