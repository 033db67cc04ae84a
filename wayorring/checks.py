"""Whether a program is good, and how much it weighs."""

from wayorring.bodies import MOST_SIZE, BodyCheck, bounds_are_good, input_shapes, parameter_shapes
from wayorring.errors import BadProgram, TooLong
from wayorring.program import statements_of

MOST_ROWS = 60
MOST_FUNCTIONS = 4
MOST_PARAMETERS = 3
MOST_UNKNOWNS = 6
MOST_WEIGHT = 1000


def weight_of(statements, program):
    """The weight of a block of a program that is good or too long."""
    weights = {}
    # A function calls only functions above it, so their weights are known already.
    for row, name, parameters, body in program.functions:
        weights[name] = _block_weight(body, weights)
    return _block_weight(statements, weights)


def check_program(program):
    """Raises BadProgram with the first row that is wrong, or TooLong if the program is good otherwise."""
    wrong = _wrong_inputs(program.inputs) + _wrong_heads(program.functions) + _wrong_statements(program)
    if _count_rows(program) > MOST_ROWS:
        wrong.append(MOST_ROWS + 1)
    if wrong:
        raise BadProgram(min(wrong))
    if weight_of(program.body, program) > MOST_WEIGHT:
        raise TooLong("the body weighs too much")


def is_good(program):
    """True if a program is good and not too long, otherwise False."""
    try:
        check_program(program)
    except (BadProgram, TooLong):
        return False
    return True


def _block_weight(block, weights):
    """The weight of a block, with the weights of the functions that it calls."""
    return sum([_statement_weight(statement, weights) for statement in block])


def _statement_weight(statement, weights):
    if statement[0] == "call":
        return 1 + weights[statement[3]]
    if statement[0] == "if":
        return 1 + max(_block_weight(statement[3], weights), _block_weight(statement[4], weights))
    if statement[0] == "while":
        most = statement[3]
        return most + 1 + most * _block_weight(statement[4], weights)
    return 1


def _count_rows(program):
    """How many rows the text of a program has."""
    many = len(program.inputs) + 2 * len(program.functions)
    for statement in statements_of(program):
        many += 1
        if statement[0] in ("if", "while"):
            many += 1
        if statement[0] == "if" and statement[4]:
            many += 1
    return many


def _wrong_inputs(inputs):
    """The input rows that are wrong."""
    wrong = []
    names = {}
    unknowns = 0
    for row, (name, size, lo, hi) in enumerate(inputs, start=1):
        before = unknowns
        unknowns += max(size, 1)
        seventh = before <= MOST_UNKNOWNS < unknowns
        if seventh or size > MOST_SIZE or name in names or not bounds_are_good(lo, hi):
            wrong.append(row)
        names[name] = True
    return wrong


def _wrong_heads(functions):
    """The def rows that are wrong."""
    wrong = [function[0] for function in functions[MOST_FUNCTIONS:]]
    names = {}
    for row, name, parameters, body in functions:
        if name in names or len(parameters) > MOST_PARAMETERS or len(set(parameters)) < len(parameters):
            wrong.append(row)
        names[name] = True
    return wrong


def _wrong_statements(program):
    """The rows of statements that are wrong."""
    wrong = []
    callees = {}
    for row, name, parameters, body in program.functions:
        check = BodyCheck(parameter_shapes(parameters), (), callees, True)
        wrong.extend(check.wrong_rows(body, 0))
        callees[name] = len(parameters)
    fixed = [told[0] for told in program.inputs]
    check = BodyCheck(input_shapes(program.inputs), fixed, callees, False)
    wrong.extend(check.wrong_rows(program.body, 0))
    return wrong
