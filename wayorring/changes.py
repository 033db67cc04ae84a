"""The changes of a program."""

from wayorring.checks import check_program, is_good
from wayorring.program import statements_of, with_statement

EXCHANGED = {"<": "<=", "<=": "<", ">": ">=", ">=": ">", "==": "!=", "!=": "=="}
OTHER_WORD = {"and": "or", "or": "and"}


class Change:
    """A program that differs from another one in one row; kind tells how."""

    def __init__(self, row, kind, program):
        self.row = row
        self.kind = kind
        self.program = program


def list_changes(program):
    """The list of the changes that are good programs. Raises BadProgram or TooLong."""
    check_program(program)
    changes = []
    for statement in statements_of(program):
        for kind, changed in _changed_statements(statement):
            other = with_statement(program, changed)
            if is_good(other):
                changes.append(Change(statement[1], kind, other))
    return changes


def _changed_statements(statement):
    """The list of tuples (kind, changed statement)."""
    found = []
    if statement[0] in ("if", "while", "check"):
        for kind, condition in _changed_conditions(statement):
            found.append((kind, statement[:2] + (condition,) + statement[3:]))
    if statement[0] in ("let", "list", "set", "put", "answer", "return"):
        for kind, step in (("more", 1), ("less", -1)):
            found.append((kind, statement[:-1] + (_stepped(statement[-1], step),)))
    if statement[0] in ("set", "put", "call", "check"):
        found.append(("out", ("skip", statement[1])))
    return found


def _stepped(expression, step):
    """The expression plus a step, which is added to n or to plus."""
    return expression[:-1] + (expression[-1] + step,)


def _changed_conditions(statement):
    """The list of tuples (kind, changed condition)."""
    condition = statement[2]
    edges = [("edge", changed) for changed in _edges_of(condition)]
    return edges + [("turned", ("not", condition))] + [("joined", changed) for changed in _joined_of(condition)]


def _edges_of(condition):
    """The condition with the sign of one comparison exchanged, for each comparison from left to right."""
    if condition[0] == "cmp":
        _, sign, left, right = condition
        return [("cmp", EXCHANGED[sign], left, right)]
    return _within(condition, _edges_of)


def _joined_of(condition):
    """The condition with one "and" made an "or" or the other way round, for each of them, the outer ones first."""
    if condition[0] == "cmp":
        return []
    below = _within(condition, _joined_of)
    if condition[0] == "not":
        return below
    return [(OTHER_WORD[condition[0]], condition[1])] + below


def _within(condition, change):
    """The list of the conditions that come about when change, which gives a list, is used on a part."""
    if condition[0] == "not":
        return [("not", changed) for changed in change(condition[1])]
    word, parts = condition
    found = []
    for number, part in enumerate(parts):
        for changed in change(part):
            found.append((word, parts[:number] + (changed,) + parts[number + 1:]))
    return found
