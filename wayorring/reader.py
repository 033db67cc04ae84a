"""Reading the text of a program."""

from wayorring.errors import BadText
from wayorring.program import Program
from wayorring.rows import head_of, input_of, statement_of
from wayorring.words import split_row

MOST_BLOCKS = 8


def read_program(text):
    """The Program of a text. Raises BadText with the first row that is wrong."""
    lines = text.split("\n")
    builder = Builder()
    for row, line in enumerate(lines, start=1):
        words = split_row(line)
        if not words or not builder.take_row(row, words):
            raise BadText(row)
    if not builder.is_complete():
        raise BadText(len(lines) + 1)
    return Program(tuple(builder.inputs), tuple(builder.functions), tuple(builder.body))


class Block:
    """A function, if or while whose end has not come yet. Its head is a tuple whose first part tells the kind."""

    def __init__(self, head):
        self.head = head
        self.first = []
        self.other = None

    def put(self, statement):
        """Puts a statement behind the others."""
        lines = self.first if self.other is None else self.other
        lines.append(statement)

    def turn_to_else(self):
        """Begins the else. Returns False if none may stand here."""
        if self.head[0] != "if" or self.other is not None:
            return False
        self.other = []
        return True

    def may_end(self):
        """True unless statements are missing."""
        if self.head[0] == "def":
            return bool(self.first)
        return self.other is None or bool(self.other)

    def built(self):
        """The function, or the statement, with what stands in it."""
        if self.head[0] == "def":
            return self.head[1:] + (tuple(self.first),)
        if self.head[0] == "while":
            return self.head[:4] + (tuple(self.first),)
        return self.head[:3] + (tuple(self.first), tuple(self.other or []))


class Builder:
    """Puts a program together, row by row. The methods that take a row return False if the row is wrong."""

    def __init__(self):
        self.inputs = []
        self.functions = []
        self.body = []
        self.blocks = []

    def is_complete(self):
        """True if the text may end here."""
        return not self.blocks and bool(self.body)

    def take_row(self, row, words):
        """Takes the words of the next row."""
        if words[0] == "input":
            return self._take_input(words)
        if not self.inputs:
            return False
        if words[0] == "def":
            return self._take_def(row, words)
        if words[0] == "else":
            return len(words) == 1 and bool(self.blocks) and self.blocks[-1].turn_to_else()
        if words[0] == "end":
            return len(words) == 1 and self._take_end()
        return self._take_statement(row, words)

    def _take_input(self, words):
        found = input_of(words)
        if found is None or self.functions or self.body or self.blocks:
            return False
        self.inputs.append(found)
        return True

    def _take_def(self, row, words):
        head = head_of(words)
        if head is None or self.body or self.blocks:
            return False
        self.blocks.append(Block(("def", row, head[0], head[1])))
        return True

    def _take_end(self):
        if not self.blocks or not self.blocks[-1].may_end():
            return False
        block = self.blocks.pop()
        if block.head[0] == "def":
            self.functions.append(block.built())
        else:
            self._put(block.built())
        return True

    def _take_statement(self, row, words):
        statement = statement_of(row, words)
        if statement is None:
            return False
        if statement[0] not in ("if", "while"):
            self._put(statement)
            return True
        if len([block for block in self.blocks if block.head[0] != "def"]) == MOST_BLOCKS:
            return False
        self.blocks.append(Block(statement))
        return True

    def _put(self, statement):
        if self.blocks:
            self.blocks[-1].put(statement)
        else:
            self.body.append(statement)
