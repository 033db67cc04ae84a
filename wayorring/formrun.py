"""Runs over forms, with inputs that need not be known."""

from wayorring.forms import Answers, form_of, form_truth, item_number
from wayorring.program import input_variables, ranges_of
from wayorring.ways import range_ways

CONDITIONAL = ("if", "while", "check")
EVALUATED = ("let", "list", "set", "answer", "return")


class Frame:
    """One visit of a body: its variables, the ranges that they keep, what is still to come, and the call.

    What is to come are statements with the number of turns that began, the next one last. The variables are
    never modified, only replaced, so that twins share them; so are their lists. The call is None for the program.
    """

    def __init__(self, variables, ranges, call):
        self.variables = variables
        self.ranges = ranges
        self.call = call
        self.coming = []

    def enter(self, block):
        """Puts the statements of a block before what is still to come."""
        self.coming.extend([(statement, 0) for statement in reversed(block)])

    def store(self, name, held):
        """Gives a variable a form or a list of forms."""
        self.variables = {**self.variables, name: held}

    def twin(self):
        """A copy that goes on by itself."""
        other = Frame(self.variables, self.ranges, self.call)
        other.coming = list(self.coming)
        return other


class FormRun:
    """A run that goes on event by event, and waits where it needs to know what hangs on the inputs.

    Its task is the statement that is carried out, or ("give", row, name, form) where a variable gets a value.
    """

    def __init__(self, program, *, inputs=None):
        self.events = []
        self.outcome = None
        self.question = None
        self.variables = {}
        self._program = program
        self._functions = {name: (parameters, body) for row, name, parameters, body in program.functions}
        self._frames = []
        self._task = None
        self._turns = 0
        self._results = []
        self._decided = []
        self._visit(program.body, input_variables(program, _input_forms(program, inputs)), None)

    def advance(self):
        """Goes on until one event was added, a question is open, or the run is over; tells which of these."""
        while True:
            if self.question is not None:
                return "ask"
            if self._decided:
                self.events.append(self._decided.pop(0))
                return "event"
            if self.outcome is not None:
                return "over"
            if self._task is None:
                self._begin()
            else:
                self._go_on()

    def take(self, number):
        """Goes the way with this number of the open question."""
        self._results.append(self.question[number][0])
        self.question = None

    def twin(self):
        """A copy that runs on by itself."""
        other = FormRun(self._program)
        other.events = list(self.events)
        other.outcome = self.outcome
        other.question = self.question
        other.variables = self.variables
        other._frames = [frame.twin() for frame in self._frames]
        other._task = self._task
        other._turns = self._turns
        other._results = list(self._results)
        other._decided = list(self._decided)
        return other

    def _visit(self, body, variables, call):
        """Begins to visit a body."""
        frame = Frame(variables, ranges_of(body), call)
        frame.enter(body)
        self._frames.append(frame)

    def _leave(self, form):
        """Leaves a body whose call gives this form."""
        call = self._frames.pop().call
        if call is None:
            self.outcome = ("end",)
        else:
            self._turn_to(("give", call[1], call[2], form))

    def _begin(self):
        """Begins the next statement of the body, or leaves it if there is none."""
        frame = self._frames[-1]
        if not frame.coming:
            self._leave((0, 0))
            return
        statement, self._turns = frame.coming.pop()
        self.variables = frame.variables
        self._turn_to(statement)
        self._decided.append(("row", statement[1]))

    def _turn_to(self, task):
        """The task so far is done; this is the next one, or None."""
        self._task = task
        self._results = []

    def _go_on(self):
        """Carries the task out, from its beginning, or comes to its next question."""
        answers = Answers(self._results)
        found = self._find(answers)
        self.question = answers.question
        if self.question is None:
            if found is None:
                self._fault("index")
            else:
                self._use(found)

    def _find(self, answers):
        """What the task needs to know, or None if an index is outside or a question stands open."""
        task = self._task
        frame = self._frames[-1]
        if task[0] in CONDITIONAL:
            return form_truth(task[2], frame.variables, answers)
        if task[0] in EVALUATED:
            return form_of(task[-1], frame.variables, answers)
        if task[0] == "put":
            at = item_number(task[3], frame.variables[task[2]], frame.variables, answers)
            form = None if at is None else form_of(task[4], frame.variables, answers)
            return None if form is None else (at, form)
        if task[0] == "give" and task[2] in frame.ranges:
            lo, hi = frame.ranges[task[2]]
            return answers.result_of(range_ways(task[3], lo, hi))
        return 0

    def _use(self, found):
        """Does what the task tells, by what it needed to know."""
        kind = self._task[0]
        if kind in CONDITIONAL:
            self._branch(found)
        elif kind == "answer":
            self.outcome = ("answer", found)
        elif kind == "return":
            self._leave(found)
        elif kind == "call":
            self._call()
        elif kind == "refuse":
            self._fault(self._task[2])
        elif kind == "give" and found != 0:
            self._fault("range")
        elif kind in ("let", "set"):
            self._turn_to(("give", self._task[1], self._task[2], found))
        else:
            self._store(found)
            self._turn_to(None)

    def _branch(self, truth):
        """Goes on behind the condition of an if, while or check."""
        statement = self._task
        self._decided.append(("yes" if truth else "no", statement[1]))
        if statement[0] == "if":
            self._frames[-1].enter(statement[3] if truth else statement[4])
        elif statement[0] == "check" and not truth:
            self._fault("check")
        elif statement[0] == "while" and truth:
            self._begin_turn()
        self._turn_to(None)

    def _begin_turn(self):
        """Begins the next turn of a while, if it may have one more."""
        _, row, _, most, body = self._task
        if self._turns == most:
            self._fault("turns")
            return
        frame = self._frames[-1]
        frame.coming.append((self._task, self._turns + 1))
        frame.enter(body)
        self._decided.append(("turn", row, self._turns + 1))

    def _call(self):
        """Begins to carry out the function that is called."""
        _, _, _, name, arguments = self._task
        parameters, body = self._functions[name]
        variables = self._frames[-1].variables
        # Arguments are plain, so they ask nothing.
        forms = [form_of(argument, variables, Answers([])) for argument in arguments]
        self._visit(body, dict(zip(parameters, forms)), self._task)
        self._turn_to(None)

    def _store(self, found):
        """Stores what a give, a list or a put brings; a skip brings nothing."""
        frame = self._frames[-1]
        task = self._task
        if task[0] == "give":
            frame.store(task[2], task[3])
        elif task[0] == "list":
            frame.store(task[2], [found] * task[3])
        elif task[0] == "put":
            at, form = found
            items = list(frame.variables[task[2]])
            items[at] = form
            frame.store(task[2], items)

    def _fault(self, kind):
        """Ends the run by a fault in the row of the task."""
        self.outcome = ("fault", self._task[1], kind)
        self._decided.append(self.outcome)


def _input_forms(program, inputs):
    """The forms that the unknowns stand for."""
    if inputs is None:
        return [(k, 0) for k, bounds in enumerate(program.unknowns, start=1)]
    return [(0, number) for number in inputs]
