"""Places: their texts, and whether they are good for a program."""

from wayorring.bodies import declared_shapes, expression_is_good, input_shapes, parameter_shapes
from wayorring.errors import BadPlace
from wayorring.expressions import comparison_of, write_condition
from wayorring.parts import expressions_of
from wayorring.program import ranges_of, statements_in
from wayorring.words import is_name, is_number, parts_between, split_row, word_at

MOST_ATOMS = 3


def read_place(text):
    """The place of a text. Raises BadPlace if the text does not have the form of a place."""
    words = split_row(text)
    if words is None:
        raise BadPlace("a character belongs to no word")
    parts = parts_between(words, "then")
    if len(parts) > MOST_ATOMS:
        raise BadPlace("there are too many atoms")
    atoms = [_atom_of(part) for part in parts]
    if None in atoms:
        raise BadPlace("an atom has a wrong form")
    return tuple(atoms)


def write_place(place):
    """The text of a place."""
    return " then ".join([_write_atom(atom) for atom in place])


def check_place(program, place):
    """Raises BadPlace if the place is not good for the program."""
    if not isinstance(place, tuple) or not 1 <= len(place) <= MOST_ATOMS:
        raise BadPlace("a place is a tuple of one to three atoms")
    for atom in place:
        if not _atom_is_good(atom, program):
            raise BadPlace("an atom is not good for the program")


def place_is_good(program, place):
    """True if the place is good for the program, otherwise False."""
    try:
        check_place(program, place)
    except BadPlace:
        return False
    return True


def standing(program):
    """The list of all atoms, ascending, that are good for the program, except for "when"."""
    found = []
    for shapes, body in _bodies_of(program):
        ranges = ranges_of(body)
        for statement in statements_in(body):
            found.extend(_atoms_at(statement, ranges))
    return sorted(found)


def _atom_of(words):
    """The atom that these words are, or None."""
    if not is_number(word_at(words, 1)):
        return None
    kind, row = words[0], int(words[1])
    if kind == "when":
        comparison = comparison_of(words[3:]) if word_at(words, 2) == ":" else None
        return None if comparison is None else ("when", row, *comparison[1:])
    if kind in ("row", "yes", "no") and len(words) == 2:
        return (kind, row)
    if kind == "turn" and len(words) == 3 and is_number(words[2]):
        return (kind, row, int(words[2]))
    if kind == "fault" and len(words) == 3 and (is_name(words[2]) or words[2] == "check"):
        return (kind, row, words[2])
    return None


def _write_atom(atom):
    if atom[0] == "when":
        _, row, sign, left, right = atom
        comparison = write_condition(("cmp", sign, left, right))
        return f"when {row}: {comparison}"
    return " ".join([str(part) for part in atom])


def _bodies_of(program):
    """The list of the bodies, each behind the shapes of the names that it begins with."""
    found = [(parameter_shapes(parameters), body) for row, name, parameters, body in program.functions]
    return found + [(input_shapes(program.inputs), program.body)]


def _atom_is_good(atom, program):
    for shapes, body in _bodies_of(program):
        for statement in statements_in(body):
            if statement[1] == atom[1]:
                if atom[0] == "when":
                    return _when_is_good(atom, shapes, body)
                return atom in _atoms_at(statement, ranges_of(body))
    return False


def _when_is_good(atom, shapes, body):
    """True if the comparison of a "when" is good above its row; the body begins with these shapes."""
    _, row, _, left, right = atom
    above = dict(shapes)
    for statement in body:
        if statement[1] < row:
            above.update(declared_shapes(statement))
    return expression_is_good(left, above) and expression_is_good(right, above)


def _atoms_at(statement, ranges):
    """The list of the atoms, except for "when", that are good at a statement of a body with these ranges."""
    kind, row = statement[0], statement[1]
    atoms = [("row", row)]
    if kind in ("if", "while", "check"):
        atoms.extend([("yes", row), ("no", row)])
    if kind == "while":
        atoms.extend([("turn", row, k) for k in range(1, statement[3] + 1)])
    return atoms + [("fault", row, word) for word in _faults_at(statement, ranges)]


def _faults_at(statement, ranges):
    """The list of the kinds of faults that the row of a statement can make."""
    kind = statement[0]
    kinds = []
    if kind in ("let", "set", "call") and statement[2] in ranges:
        kinds.append("range")
    if kind == "put" or "item" in [expression[0] for expression in expressions_of(statement)]:
        kinds.append("index")
    if kind == "while":
        kinds.append("turns")
    if kind == "check":
        kinds.append("check")
    if kind == "refuse":
        kinds.append(statement[2])
    return kinds
