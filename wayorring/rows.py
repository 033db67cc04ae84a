"""The forms of single rows.

Each function gets the words of a row and gives what the row is, or None if it does not have the form.
"""

from wayorring.expressions import condition_of, expression_of, plain_of, signed_of
from wayorring.words import is_name, is_number, parts_between, word_at


def input_of(words):
    """The input (name, size, lo, hi) of an input row."""
    name = word_at(words, 1)
    listed = word_at(words, 2) == "list"
    size = _size_of(word_at(words, 3)) if listed else 0
    bounds = _bounds_of(words[4:] if listed else words[2:])
    if not is_name(name) or size is None or bounds is None:
        return None
    return (name, size, bounds[0], bounds[1])


def head_of(words):
    """The name and the parameters of the function whose def row this is."""
    name = word_at(words, 1)
    if not is_name(name) or word_at(words, 2) != "(" or words[-1] != ")":
        return None
    parts = _parts_between_commas(words[3:-1])
    if not all([len(part) == 1 and is_name(part[0]) for part in parts]):
        return None
    return (name, tuple([part[0] for part in parts]))


def statement_of(row, words):
    """The statement of a row with at least one word. The blocks of an if or while are empty."""
    if words[0] in FORMS:
        form = FORMS[words[0]]
        return form(row, words)
    if "(" in words:
        return _call_of(row, words)
    return _assignment_of(row, words)


def _let_of(row, words):
    left, right = _halves(words)
    name = word_at(left, 1)
    bounds = (None, None) if len(left) == 2 else _bounds_of(left[2:])
    expression = expression_of(right)
    if not is_name(name) or bounds is None or expression is None:
        return None
    return ("let", row, name, bounds[0], bounds[1], expression)


def _list_of(row, words):
    left, right = _halves(words)
    name = word_at(left, 1)
    size = _size_of(word_at(left, 2))
    expression = expression_of(right)
    if len(left) != 3 or not is_name(name) or size is None or expression is None:
        return None
    return ("list", row, name, size, expression)


def _assignment_of(row, words):
    left, right = _halves(words)
    expression = expression_of(right)
    if not is_name(word_at(left, 0)) or expression is None:
        return None
    if len(left) == 1:
        return ("set", row, left[0], expression)
    if word_at(left, 1) != "[" or left[-1] != "]":
        return None
    index = plain_of(left[2:-1])
    return None if index is None else ("put", row, left[0], index, expression)


def _call_of(row, words):
    left, right = _halves(words)
    if len(left) != 1 or not is_name(left[0]):
        return None
    if not is_name(word_at(right, 0)) or word_at(right, 1) != "(" or right[-1] != ")":
        return None
    arguments = [plain_of(part) for part in _parts_between_commas(right[2:-1])]
    if None in arguments:
        return None
    return ("call", row, left[0], right[0], tuple(arguments))


def _if_of(row, words):
    condition = condition_of(words[1:])
    return None if condition is None else ("if", row, condition, (), ())


def _while_of(row, words):
    condition = condition_of(words[1:-3])
    if condition is None or words[-3:-1] != ["at", "most"] or not is_number(words[-1]):
        return None
    return ("while", row, condition, int(words[-1]), ())


def _check_of(row, words):
    condition = condition_of(words[1:])
    return None if condition is None else ("check", row, condition)


def _refuse_of(row, words):
    if len(words) != 2 or not is_name(words[1]):
        return None
    return ("refuse", row, words[1])


def _giving_of(row, words):
    expression = expression_of(words[1:])
    return None if expression is None else (words[0], row, expression)


def _skip_of(row, words):
    return ("skip", row) if len(words) == 1 else None


def _size_of(word):
    """The size of a list."""
    return int(word) if is_number(word) and word != "0" else None


def _bounds_of(words):
    """The LO and HI of a range."""
    if word_at(words, 0) != "from" or "to" not in words:
        return None
    at = words.index("to")
    lo = signed_of(words[1:at])
    hi = signed_of(words[at + 1:])
    return None if lo is None or hi is None else (lo, hi)


def _halves(words):
    """The words before the first "=" and those behind it, which are none if there is no "="."""
    at = words.index("=") if "=" in words else len(words)
    return words[:at], words[at + 1:]


def _parts_between_commas(words):
    """The lists of words between commas, none if there are no words."""
    return parts_between(words, ",") if words else []


FORMS = {
    "let": _let_of, "list": _list_of, "if": _if_of, "while": _while_of, "check": _check_of, "refuse": _refuse_of,
    "answer": _giving_of, "return": _giving_of, "skip": _skip_of,
}
