"""Writing programs and their statements."""

from wayorring.expressions import write_condition, write_expression


def write_program(program):
    """The written form of a program."""
    rows = [_write_input(told) for told in program.inputs]
    for row, name, parameters, body in program.functions:
        rows.append(f"def {name}({_with_commas(parameters)})")
        rows.extend(_block_rows(body, "  "))
        rows.append("end")
    rows.extend(_block_rows(program.body, ""))
    return "\n".join(rows)


def write_statement(statement):
    """The row of a statement without indentation, for an if or while its head."""
    kind = statement[0]
    if kind in ("let", "list", "set", "put", "call"):
        return _write_giving(statement)
    if kind == "while":
        return f"while {write_condition(statement[2])} at most {statement[3]}"
    if kind in ("if", "check"):
        return f"{kind} {write_condition(statement[2])}"
    if kind == "refuse":
        return f"refuse {statement[2]}"
    if kind == "skip":
        return "skip"
    return f"{kind} {write_expression(statement[2])}"


def _write_giving(statement):
    """The row of a statement that gives something a value."""
    kind, name = statement[0], statement[2]
    if kind == "call":
        arguments = [write_expression(argument) for argument in statement[4]]
        return f"{name} = {statement[3]}({_with_commas(arguments)})"
    value = write_expression(statement[-1])
    if kind == "set":
        return f"{name} = {value}"
    if kind == "put":
        return f"{name}[{write_expression(statement[3])}] = {value}"
    if kind == "list":
        return f"list {name} {statement[3]} = {value}"
    if statement[3] is None:
        return f"let {name} = {value}"
    return f"let {name} from {statement[3]} to {statement[4]} = {value}"


def _write_input(told):
    """The row of an input."""
    name, size, lo, hi = told
    items = f" list {size}" if size else ""
    return f"input {name}{items} from {lo} to {hi}"


def _block_rows(block, margin):
    """The rows of a block whose statements stand behind a margin."""
    rows = []
    for statement in block:
        rows.append(margin + write_statement(statement))
        if statement[0] == "if":
            rows.extend(_block_rows(statement[3], margin + "  "))
            if statement[4]:
                rows.append(margin + "else")
                rows.extend(_block_rows(statement[4], margin + "  "))
            rows.append(margin + "end")
        if statement[0] == "while":
            rows.extend(_block_rows(statement[4], margin + "  "))
            rows.append(margin + "end")
    return rows


def _with_commas(texts):
    return ", ".join(texts)
