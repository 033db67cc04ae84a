"""Looking at the statements of one body."""

from wayorring.parts import comparisons_of, depth_of, expressions_of
from wayorring.program import blocks_of

NUMBER = "number"
ITEMS = "list"
MOST_BLOCKS = 5
MOST_SIZE = 6
MOST_BOUND = 1000000000
MOST_NUMBER = 999999
MOST_TURNS = 8
MOST_COMPARISONS = 6
MOST_DEPTH = 4
KEPT_WORDS = ("range", "index", "turns")


def bounds_are_good(lo, hi):
    """True if LO and HI make a range that a good program may have."""
    return -MOST_BOUND <= lo <= hi <= MOST_BOUND


def input_shapes(inputs):
    """The shapes of the names that the program's body begins with."""
    return {name: ITEMS if size else NUMBER for name, size, lo, hi in inputs}


def parameter_shapes(parameters):
    """The shapes of the names that a function's body begins with."""
    return {parameter: NUMBER for parameter in parameters}


def declared_shapes(statement):
    """The shape of the name that a statement declares, by that name; empty if it declares none."""
    if statement[0] not in ("let", "list"):
        return {}
    return {statement[2]: NUMBER if statement[0] == "let" else ITEMS}


def expression_is_good(expression, shapes):
    """True if an expression uses names as their shapes tell and has no number that is too great."""
    if abs(expression[-1]) > MOST_NUMBER:
        return False
    if expression[0] == "num":
        return True
    if expression[0] == "var":
        return _has_shape(expression[1], NUMBER, shapes)
    return _has_shape(expression[1], ITEMS, shapes) and expression_is_good(expression[2], shapes)


class BodyCheck:
    """Goes through a body by rows and knows the names that are declared above.

    shapes tells for each of them whether it is a NUMBER or ITEMS, fixed are the names of inputs, and functions
    tells for each function that may be called how many parameters it has.
    """

    def __init__(self, shapes, fixed, functions, inside):
        self.shapes = dict(shapes)
        self.fixed = fixed
        self.functions = functions
        self.inside = inside

    def wrong_rows(self, block, deep):
        """The rows of the block's statements that are wrong; the block lies in so many ifs and whiles."""
        wrong = []
        for statement in block:
            if deep > MOST_BLOCKS or not self._is_good(statement, deep):
                wrong.append(statement[1])
            self.shapes.update(declared_shapes(statement))
            for inner in blocks_of(statement):
                wrong.extend(self.wrong_rows(inner, deep + 1))
        return wrong

    def _is_good(self, statement, deep):
        for expression in expressions_of(statement):
            if not expression_is_good(expression, self.shapes):
                return False
        kind = statement[0]
        if kind in ("let", "list"):
            return deep == 0 and self._declaration_is_good(statement)
        if kind in ("set", "put", "call"):
            return self._assignment_is_good(statement)
        if kind in ("if", "check"):
            return _condition_is_good(statement[2])
        if kind == "while":
            return _condition_is_good(statement[2]) and 1 <= statement[3] <= MOST_TURNS
        if kind == "refuse":
            return statement[2] not in KEPT_WORDS
        if kind in ("answer", "return"):
            return self.inside == (kind == "return")
        return True

    def _declaration_is_good(self, statement):
        if statement[2] in self.shapes:
            return False
        if statement[0] == "list":
            return statement[3] <= MOST_SIZE
        return statement[3] is None or bounds_are_good(statement[3], statement[4])

    def _assignment_is_good(self, statement):
        shape = ITEMS if statement[0] == "put" else NUMBER
        if statement[2] in self.fixed or not _has_shape(statement[2], shape, self.shapes):
            return False
        if statement[0] != "call":
            return True
        return statement[3] in self.functions and self.functions[statement[3]] == len(statement[4])


def _has_shape(name, shape, shapes):
    return name in shapes and shapes[name] == shape


def _condition_is_good(condition):
    return len(comparisons_of(condition)) <= MOST_COMPARISONS and depth_of(condition) <= MOST_DEPTH
