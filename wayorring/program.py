"""Programs and their statements."""


class Program:
    """A program that was read: its inputs, its functions and its body, as tuples."""

    def __init__(self, inputs, functions, body):
        self.inputs = inputs
        self.functions = functions
        self.body = body

    @property
    def unknowns(self):
        """The list of (lo, hi) of the unknowns: one for a plain input, one for each item of a list input."""
        return [(lo, hi) for name, size, lo, hi in self.inputs for item in range(max(size, 1))]

    def same(self, other):
        """True if all three attributes are equal, otherwise False."""
        return self.inputs == other.inputs and self.functions == other.functions and self.body == other.body


def statements_of(program):
    """The list of all statements, also those within blocks and functions, by rows."""
    found = []
    for row, name, parameters, body in program.functions:
        found.extend(statements_in(body))
    found.extend(statements_in(program.body))
    return found


def input_variables(program, items):
    """The variables that a run begins with; the items are what the unknowns stand for, in order."""
    variables = {}
    at = 0
    for name, size, lo, hi in program.inputs:
        variables[name] = list(items[at:at + size]) if size else items[at]
        at += max(size, 1)
    return variables


def ranges_of(body):
    """The ranges (lo, hi) that are told in a body, by the names of the variables that keep them."""
    return {let[2]: (let[3], let[4]) for let in body if let[0] == "let" and let[3] is not None}


def with_statement(program, statement):
    """The program with this statement in its row; an if or while gets the blocks that stand there."""
    functions = []
    for row, name, parameters, body in program.functions:
        functions.append((row, name, parameters, _block_with(body, statement)))
    return Program(program.inputs, tuple(functions), _block_with(program.body, statement))


def blocks_of(statement):
    """The blocks that stand directly within a statement, by rows."""
    if statement[0] == "if":
        return statement[3:5]
    if statement[0] == "while":
        return statement[4:5]
    return ()


def statements_in(block):
    """The statements of a block, each before those within it."""
    found = []
    for statement in block:
        found.append(statement)
        for inner in blocks_of(statement):
            found.extend(statements_in(inner))
    return found


def _block_with(block, statement):
    return tuple([_replaced(old, statement) for old in block])


def _replaced(old, statement):
    """What becomes of an old statement if this one takes its row, or a row within it."""
    blocks = blocks_of(old)
    if old[1] == statement[1]:
        return _without_blocks(statement) + blocks
    return _without_blocks(old) + tuple([_block_with(block, statement) for block in blocks])


def _without_blocks(statement):
    return statement[:len(statement) - len(blocks_of(statement))]
