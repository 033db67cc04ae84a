"""Programs and helpers that several tests use."""

import itertools
import random

from wayorring.chains import floor_value, is_ring, keeps
from wayorring.checks import check_program
from wayorring.errors import BadPlace, BadProgram, TooLong
from wayorring.meaning import run_program
from wayorring.places import check_place, read_place, standing
from wayorring.program import statements_of
from wayorring.reader import read_program

WORDS = {"r": "row", "y": "yes", "n": "no", "t": "turn", "f": "fault"}

LATER = """\
input a from 0 to 99
input xs list 3 from -5 to 1000000
def later(x, top)
  if x < top
    return x + 1
  end
  return top
end
let i = 0
let best from 0 to 2000000 = a
while i < 3 at most 3
  if xs[i] > best and not xs[i] == a
    best = xs[i]
  end
  i = later(i, 3)
end
check best >= a
answer best - 1"""

# Small ranges, so that all inputs can be tried.
SMALL = (
    """\
input a from -1 to 3
input b from 0 to 2
list xs 3 = b + 1
xs[a] = xs[b] - 1
xs[b] = a
answer xs[1]""",
    """\
input a from 0 to 4
let c from 1 to 3 = a
while c < 4 at most 2
  c = c + 1
end""",
    """\
input xs list 2 from -1 to 2
input k from -1 to 2
def pick(i, j)
  list ys 2 = i
  ys[j] = j + 1
  return ys[i] - 2
end
let c from -1 to 1 = 0
if xs[k] == k or xs[0] < xs[1] and not (k >= 1)
  c = pick(k, xs)
else
  refuse odd
end
check c != 0
answer c + 5""".replace("pick(k, xs)", "pick(k, k)"),
    """\
input a from -2 to 2
input b from -2 to 2
def less(x, y)
  if x < y
    return -1
  end
  if x == y
    return 0
  end
  return 1
end
let c = 0
let n from 0 to 2 = 0
while a != c at most 3
  c = less(a, c)
  n = n + 1
  if not b <= c
    answer n
  end
end
check b > a""",
)


def program_of(*rows):
    return read_program("\n".join(rows))


BAD = program_of("input a from 0 to 9", "skip", "b = 3")
TOO_LONG = program_of("input a from 0 to 9", *["while a < 3 at most 8"] * 3, "skip", "skip", *["end"] * 3)


def check_refusals(case, call):
    """Looks whether a call of a program refuses one that is not good, with its row, and one that is too long."""
    with case.assertRaises(BadProgram) as caught:
        call(BAD)
    case.assertEqual(caught.exception.row, 3)
    with case.assertRaises(TooLong):
        call(TOO_LONG)


def events_of(told):
    """The events that are told in short: "r2 y3 t4.1 f5.index"."""
    found = []
    for short in told.split():
        parts = short[1:].split(".")
        rest = [int(part) if part.isdigit() else part for part in parts]
        found.append((WORDS[short[0]], *rest))
    return found


def all_inputs(program):
    """All inputs of a program with small ranges."""
    return [list(numbers) for numbers in itertools.product(*(range(lo, hi + 1) for lo, hi in program.unknowns))]


def some_inputs(program, many, seed):
    """Several inputs of a program, those at the bounds of the ranges among them."""
    chance = random.Random(seed)
    found = [[lo for lo, hi in program.unknowns], [hi for lo, hi in program.unknowns]]
    while len(found) < many:
        found.append([chance.randint(lo, hi) for lo, hi in program.unknowns])
    return found


def random_programs(many, seed):
    """Good programs with small ranges, made by chance, but always the same ones for a seed."""
    found = []
    while len(found) < many:
        program = read_program(Maker(random.Random(seed)).text())
        seed += 1
        try:
            check_program(program)
        except (BadProgram, TooLong):
            continue
        found.append(program)
    return found


def few_inputs(programs, most):
    """Those of the programs that have at most so many inputs."""
    return [program for program in programs if len(all_inputs(program)) <= most]


def runs_of(program, place=()):
    """The runs of all inputs of a program, by the inputs as tuples, the least first."""
    return {tuple(inputs): run_program(program, inputs, place=place) for inputs in all_inputs(program)}


def verdict_of_all(program, place):
    """The verdict that all inputs of a program, tried one by one, make right."""
    for inputs, run in runs_of(program, place).items():
        if run.met is not None:
            return ("found", inputs)
    return ("none",)


def unlike(one, other):
    """Whether two outcomes of runs with inputs are unlike."""
    if one[0] != other[0]:
        return True
    return one[2] != other[2] if one[0] == "fault" else one != other


def some_places(program, many, seed):
    """Good places of a program, made by chance: one to three atoms, some of them with a "when"."""
    chance = random.Random(seed)
    atoms = standing(program)
    while len(atoms) < 2 * len(standing(program)):
        atoms.append(some_when(program, chance))
    return [tuple(chance.choice(atoms) for _ in range(chance.randint(1, 3))) for _ in range(many)]


def some_when(program, chance):
    """A good atom with a "when"."""
    names = [told[0] for told in program.inputs] + ["m", "n", "o", "u", "v", "w", "x", "y", "z"]
    rows = [statement[1] for statement in statements_of(program)]
    while True:
        sides = []
        for _ in range(2):
            index = f"[{chance.choice(names + ['0', '1', '2'])}]" if chance.random() < 0.3 else ""
            name = chance.choice(names) + index
            sides.append(name if chance.random() < 0.7 else str(chance.randint(-1, 3)))
        sign = chance.choice(["<", "<=", ">", ">=", "==", "!="])
        place = read_place(f"when {chance.choice(rows)}: {sides[0]} {sign} {sides[1]}")
        try:
            check_place(program, place)
        except BadPlace:
            continue
        return place[0]


class Maker:
    """Makes the text of a program by chance."""

    def __init__(self, chance):
        self.chance = chance
        self.rows = []
        self.functions = []
        self.numbers = []
        self.lists = []
        self.givable = []
        self.puttable = []
        self.inside = False

    def text(self):
        for at in range(self.chance.randint(1, 3)):
            lo = self.chance.randint(-2, 1)
            hi = lo + self.chance.randint(0, 3)
            if self.chance.random() < 0.3:
                self.rows.append(f"input {'pqr'[at]} list {self.chance.randint(2, 3)} from {lo} to {hi}")
                self.lists.append("pqr"[at])
            else:
                self.rows.append(f"input {'abc'[at]} from {lo} to {hi}")
                self.numbers.append("abc"[at])
        kept = self.numbers, self.lists
        for name in ["f", "g", "h"][:self.chance.randint(0, 3)]:
            self.make_function(name)
        self.numbers, self.lists = list(kept[0]), list(kept[1])
        self.givable, self.puttable, self.inside = [], [], False
        self.make_body(self.chance.randint(3, 8))
        return "\n".join(self.rows)

    def make_function(self, name):
        parameters = ["x", "y", "z"][:self.chance.randint(0, 3)]
        self.rows.append(f"def {name}({', '.join(parameters)})")
        self.numbers, self.lists = list(parameters), []
        self.givable, self.puttable, self.inside = list(parameters), [], True
        self.make_body(self.chance.randint(1, 4))
        self.rows.append("end")
        self.functions.append((name, len(parameters)))

    def make_body(self, many):
        fresh = ["m", "n", "o", "u", "v", "w"]
        for _ in range(many):
            if self.chance.random() < 0.4 and fresh:
                self.declare(fresh.pop())
            else:
                self.make_statement(0)

    def declare(self, name):
        if self.chance.random() < 0.35:
            self.rows.append(f"list {name} {self.chance.randint(2, 5)} = {self.expression()}")
            self.lists.append(name)
            self.puttable.append(name)
            return
        lo, hi = self.chance.randint(-3, 0), self.chance.randint(1, 6)
        told = f" from {lo} to {hi}" if self.chance.random() < 0.5 else ""
        self.rows.append(f"let {name}{told} = {self.expression()}")
        self.numbers.append(name)
        self.givable.append(name)

    def make_statement(self, deep):
        kind = self.chance.choice(
            ["set"] * 4 + ["put"] * 2 + ["call"] * 3 + ["if"] * 4 + ["while"] * 2 + ["check", "refuse", "last", "skip"])
        if kind == "if" and deep < 3:
            self.make_if(deep)
        elif kind == "while" and deep < 2:
            self.rows.append(f"while {self.condition(1)} at most {self.chance.randint(1, 3)}")
            self.make_block(deep, 0)
        elif kind == "set" and self.givable:
            self.rows.append(f"{self.chance.choice(self.givable)} = {self.expression()}")
        elif kind == "put" and self.puttable:
            self.rows.append(f"{self.chance.choice(self.puttable)}[{self.plain()}] = {self.expression()}")
        elif kind == "call" and self.givable and self.functions:
            name, many = self.chance.choice(self.functions)
            arguments = ", ".join([self.plain() for _ in range(many)])
            self.rows.append(f"{self.chance.choice(self.givable)} = {name}({arguments})")
        elif kind == "check":
            self.rows.append(f"check {self.condition(2)}")
        elif kind == "refuse" and deep:
            self.rows.append("refuse bad")
        elif kind == "last" and deep:
            self.rows.append(f"{'return' if self.inside else 'answer'} {self.expression()}")
        else:
            self.rows.append("skip")

    def make_if(self, deep):
        self.rows.append(f"if {self.condition(2)}")
        if self.chance.random() < 0.4:
            for _ in range(self.chance.randint(0, 2)):
                self.make_statement(deep + 1)
            self.rows.append("else")
            self.make_block(deep, 1)
        else:
            self.make_block(deep, 0)

    def make_block(self, deep, least):
        for _ in range(self.chance.randint(least, 2)):
            self.make_statement(deep + 1)
        self.rows.append("end")

    def condition(self, deep):
        kind = self.chance.random()
        if deep == 0 or kind < 0.5:
            sign = self.chance.choice(["<", "<=", ">", ">=", "==", "!="])
            return f"{self.expression()} {sign} {self.expression()}"
        if kind < 0.65:
            return f"not ({self.condition(deep - 1)})"
        word = self.chance.choice([" and ", " or "])
        return word.join([f"({self.condition(deep - 1)})" for _ in range(2)])

    def expression(self):
        if self.lists and self.chance.random() < 0.35:
            plus = self.chance.choice(["", "", " + 1", " - 2"])
            return f"{self.chance.choice(self.lists)}[{self.plain()}]{plus}"
        return self.plain()

    def plain(self):
        if self.numbers and self.chance.random() < 0.75:
            return self.chance.choice(self.numbers) + self.chance.choice(["", "", " + 1", " - 1"])
        return str(self.chance.randint(-1, 3))


def least_values(program, differences):
    """The least values that keep the differences, found among all inputs; None if none do."""
    kept = [inputs for inputs in all_inputs(program) if keeps(differences, inputs)]
    return tuple(min(column) for column in zip(*kept)) if kept else None


class Tree:
    """The tree of a walk from its point on, gone through with all inputs of a program with small ranges.

    tokens has None in the place of rings and the least values in the place of floors; ways has for each token the
    differences that stand there; least has the least values where the place is met; ended has for each run that is
    over, or has met the place, the differences, the least values, the events and the outcome.
    """

    def __init__(self, program, walk):
        self.program = program
        self.tokens = []
        self.ways = []
        self.least = []
        self.ended = []
        self.rows = {}
        self.go(walk)

    def go(self, walk):
        word = walk.advance()
        if word == "ask":
            for number, differences in enumerate(walk.ways()):
                behind = walk.twin()
                behind.take(number)
                dead = least_values(self.program, behind.differences) is None
                self.add(("dead", None) if dead else ("on",), behind)
                if not dead:
                    self.go(behind)
            return
        least = least_values(self.program, walk.differences)
        self.add(("met", least) if word == "met" else ("over",), walk)
        if word == "met":
            self.least.append(least)
        self.rows.update({event[1]: True for event in walk.run.events if event[0] == "row"})
        self.ended.append((tuple(walk.differences), least, tuple(walk.run.events), walk.run.outcome))

    def add(self, token, walk):
        self.tokens.append(token)
        self.ways.append(list(walk.differences))

    def shown(self, tokens):
        """The tokens of a paper, with rings and floors as in those of the tree; wrong ones become a text."""
        found = []
        for token, differences in zip(tokens, self.ways):
            if token[0] == "dead":
                token = ("dead", None if is_ring(differences, token[1]) else "no ring")
            elif token[0] == "met":
                floors = enumerate(token[1], start=1)
                token = ("met", tuple(floor_value(differences, floor, k) for k, floor in floors))
            found.append(token)
        return found + list(tokens[len(self.ways):])


def checks_of(many):
    """The rows of a program whose tree has one end more than so many questions, one for each; many is 1 to 4096."""
    rows = ["input a from 0 to 9", "let i = 0", "let j = 0", "while i < 7 at most 7", "j = 0", "while j < 5 at most 5"]
    for size in parts_of(many // 35):
        rows.append("check " + " and ".join(["a >= 0"] * size))
    rows += ["j = j + 1", "end", "i = i + 1", "end"]
    for size in parts_of(many % 35):
        rows.append("check " + " and ".join(["a >= 0"] * size))
    return rows + ["answer a"]


def parts_of(number):
    """A number as a sum of numbers up to 6."""
    return [6] * (number // 6) + [number % 6] * (number % 6 > 0)


def choosing_program(seed):
    """A program with one input of a few numbers; its ifs choose among them by chance. All its rows are reached."""
    chance = random.Random(seed)
    many = chance.randint(3, 7)
    rows = [f"input a from 1 to {many}"]
    while len(rows) < 54:
        chosen = sorted(chance.sample(range(1, many + 1), chance.randint(1, min(many - 1, 4))))
        rows.append("if " + " or ".join([f"a == {number}" for number in chosen]))
        rows += ["skip"] * chance.choice([0, 0, 1, 1, 2, 3, 4]) + ["end"]
    return program_of(*rows)


def counting_program(seed):
    """A program of two inputs that answers a number, made by chance; many of its changes can be told apart."""
    chance = random.Random(seed)
    rows = ["input a from 0 to 4", f"input b from {chance.randint(-3, 0)} to 3", "let c = a"]
    for _ in range(chance.randint(2, 4)):
        conditions = []
        for _ in range(chance.randint(1, 3)):
            sign = chance.choice(["<", "<=", ">", ">=", "==", "!="])
            conditions.append(f"{chance.choice('abc')} {sign} {chance.choice(['b', 'c - 1', '1', '2', '3'])}")
        rows.append("if " + chance.choice([" and ", " or "]).join(conditions))
        rows.append(chance.choice(["c = c + 1", "c = b", "answer b", "refuse odd", "c = 2"]))
        rows += ["else", chance.choice(["skip", "answer 7", "c = 1"])] * chance.randint(0, 1) + ["end"]
    return program_of(*rows, chance.choice(["answer c", "check c > 1", "answer c + 1"]))
