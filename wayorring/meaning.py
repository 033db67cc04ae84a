"""Runs of programs with inputs."""

from wayorring.errors import BadInput
from wayorring.program import input_variables, ranges_of
from wayorring.values import truth_of, value_of
from wayorring.watch import Watch


class Run:
    """What happened in a run: its outcome, its events, and the number of the event that met the place, or None."""

    def __init__(self, outcome, events, met):
        self.outcome = outcome
        self.events = events
        self.met = met


def run_program(program, inputs, *, place=()):
    """The Run of the inputs. Raises BadInput if they are not an input of the program."""
    if not is_input(program, inputs):
        raise BadInput("these are not the integers that the program takes")
    runner = Runner(program, place)
    runner.carry_out(program.body, Visit(program.body, input_variables(program, inputs)))
    outcome = ("end",) if runner.outcome is None else runner.outcome
    return Run(outcome, runner.events, runner.met)


def is_input(program, inputs):
    """True if the inputs are a list or tuple of an integer within its range for each unknown, otherwise False."""
    bounds = program.unknowns
    if not isinstance(inputs, (list, tuple)) or len(inputs) != len(bounds):
        return False
    for number, (lo, hi) in zip(inputs, bounds):
        if not isinstance(number, int) or isinstance(number, bool) or not lo <= number <= hi:
            return False
    return True


class Visit:
    """One visit of a body: its variables, the ranges that they keep, and the value that it gives to its call."""

    def __init__(self, body, variables):
        self.variables = variables
        self.ranges = ranges_of(body)
        self.value = 0


class Runner:
    """A run that goes on. The outcome is None until an answer or a fault ends the run.

    What carries out statements gives True if the body goes on behind them, and False if a return has ended the
    visit, or if the run is over.
    """

    def __init__(self, program, place):
        self.outcome = None
        self.events = []
        self.met = None
        self.functions = {name: (parameters, body) for row, name, parameters, body in program.functions}
        self._watch = Watch(place)

    def carry_out(self, block, visit):
        """Carries out the statements of a block. For a while this begins it; each turn begins it anew."""
        for statement in block:
            self.begin(statement, visit)
            action = ACTIONS[statement[0]]
            if not action(self, statement, visit):
                return False
        return True

    def begin(self, statement, visit):
        """Adds the event that a statement begins."""
        event = ("row", statement[1])
        wanted = self._watch.wanted(event)
        self._add(event, wanted is not None and truth_of(("cmp", *wanted), visit.variables) is True)

    def note(self, event):
        """Adds an event that is not the beginning of a statement."""
        self._add(event, False)

    def judge(self, statement, visit):
        """The truth of the condition of a statement, or None if it made a fault."""
        truth = truth_of(statement[2], visit.variables)
        if truth is None:
            self.fault(statement, "index")
        else:
            self.note(("yes" if truth else "no", statement[1]))
        return truth

    def evaluate(self, statement, visit):
        """The value of the expression at the end of a statement, or None if it made a fault."""
        value = value_of(statement[-1], visit.variables)
        if value is None:
            self.fault(statement, "index")
        return value

    def give(self, statement, value, visit):
        """Gives the variable of a statement a value."""
        name = statement[2]
        if name in visit.ranges:
            lo, hi = visit.ranges[name]
            if not lo <= value <= hi:
                return self.fault(statement, "range")
        visit.variables[name] = value
        return True

    def fault(self, statement, kind):
        """Ends the run by a fault in the row of a statement."""
        self.outcome = ("fault", statement[1], kind)
        self.note(self.outcome)
        return False

    def _add(self, event, truth):
        if self.met is None and self._watch.see(event, truth):
            self.met = len(self.events)
        self.events.append(event)


def _carry_assignment(runner, statement, visit):
    value = runner.evaluate(statement, visit)
    return value is not None and runner.give(statement, value, visit)


def _carry_list(runner, statement, visit):
    value = runner.evaluate(statement, visit)
    if value is None:
        return False
    _, _, name, size, _ = statement
    visit.variables[name] = [value] * size
    return True


def _carry_put(runner, statement, visit):
    items = visit.variables[statement[2]]
    at = value_of(statement[3], visit.variables)
    if not 0 <= at < len(items):
        return runner.fault(statement, "index")
    value = runner.evaluate(statement, visit)
    if value is None:
        return False
    items[at] = value
    return True


def _carry_call(runner, statement, visit):
    _, _, _, function, arguments = statement
    parameters, body = runner.functions[function]
    values = [value_of(argument, visit.variables) for argument in arguments]
    inner = Visit(body, dict(zip(parameters, values)))
    runner.carry_out(body, inner)
    return runner.outcome is None and runner.give(statement, inner.value, visit)


def _carry_if(runner, statement, visit):
    truth = runner.judge(statement, visit)
    if truth is None:
        return False
    return runner.carry_out(statement[3] if truth else statement[4], visit)


def _carry_while(runner, statement, visit):
    _, row, _, most, body = statement
    turn = 0
    while True:
        truth = runner.judge(statement, visit)
        if not truth:
            return truth is not None
        if turn == most:
            return runner.fault(statement, "turns")
        turn += 1
        runner.note(("turn", row, turn))
        if not runner.carry_out(body, visit):
            return False
        runner.begin(statement, visit)


def _carry_check(runner, statement, visit):
    truth = runner.judge(statement, visit)
    if truth is None:
        return False
    return truth or runner.fault(statement, "check")


def _carry_refuse(runner, statement, visit):
    return runner.fault(statement, statement[2])


def _carry_answer(runner, statement, visit):
    value = runner.evaluate(statement, visit)
    if value is not None:
        runner.outcome = ("answer", value)
    return False


def _carry_return(runner, statement, visit):
    value = runner.evaluate(statement, visit)
    if value is not None:
        visit.value = value
    return False


def _carry_skip(runner, statement, visit):
    return True


ACTIONS = {
    "let": _carry_assignment, "list": _carry_list, "set": _carry_assignment, "put": _carry_put, "call": _carry_call,
    "if": _carry_if, "while": _carry_while, "check": _carry_check, "refuse": _carry_refuse, "answer": _carry_answer,
    "return": _carry_return, "skip": _carry_skip,
}
