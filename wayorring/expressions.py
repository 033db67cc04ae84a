"""Expressions and conditions, read and written.

The functions called take_.. begin at one of the words and give a tuple: what was read there and the place
behind it. They give None if nothing of the kind stands there.
"""

from wayorring.words import is_name, is_number, split_row, word_at

SIGNS = ("<", "<=", ">", ">=", "==", "!=")
MOST_OPEN = 8
PARENTHESES_BELOW = {"not": ("and", "or"), "and": ("and", "or"), "or": ("or",)}


def read_expression(text):
    """The expression that a text is, or None."""
    words = split_row(text)
    return None if words is None else expression_of(words)


def read_condition(text):
    """The condition that a text is, or None."""
    words = split_row(text)
    return None if words is None else condition_of(words)


def expression_of(words):
    """The expression that these words are, or None."""
    return _whole(_take_expression(words, 0), words)


def plain_of(words):
    """The expression without brackets that these words are, or None."""
    return _whole(_take_plain(words, 0), words)


def signed_of(words):
    """The integer of the signed number that these words are, or None."""
    return _whole(_take_signed(words, 0), words)


def comparison_of(words):
    """The comparison without parentheses that these words are, or None."""
    return _whole(_take_comparison(words, 0), words)


def condition_of(words):
    """The condition that these words are, or None."""
    return _whole(_take_joined(words, 0, "or", 0), words)


def write_expression(expression):
    """The written form of an expression."""
    if expression[0] == "num":
        return str(expression[1])
    if expression[0] == "var":
        _, name, plus = expression
        return name + _write_plus(plus)
    _, name, index, plus = expression
    return f"{name}[{write_expression(index)}]{_write_plus(plus)}"


def write_condition(condition):
    """The written form of a condition."""
    if condition[0] == "cmp":
        _, sign, left, right = condition
        return f"{write_expression(left)} {sign} {write_expression(right)}"
    if condition[0] == "not":
        return "not " + _write_below("not", condition[1])
    word, parts = condition
    joint = f" {word} "
    return joint.join([_write_below(word, part) for part in parts])


def _whole(taken, words):
    """What was taken from the beginning of the words, or None if it does not end where they end."""
    if taken is None or taken[1] != len(words):
        return None
    return taken[0]


def _take_signed(words, at):
    """Takes a signed number."""
    if is_number(word_at(words, at)):
        return int(words[at]), at + 1
    if word_at(words, at) == "-" and is_number(word_at(words, at + 1)):
        return -int(words[at + 1]), at + 2
    return None


def _take_plus(words, at):
    """Takes what is added behind a name or an index, which may be nothing."""
    sign = word_at(words, at)
    if sign not in ("+", "-"):
        return 0, at
    if not is_number(word_at(words, at + 1)):
        return None
    number = int(words[at + 1])
    return number if sign == "+" else -number, at + 2


def _take_plain(words, at):
    """Takes an expression without brackets."""
    if not is_name(word_at(words, at)):
        signed = _take_signed(words, at)
        return None if signed is None else (("num", signed[0]), signed[1])
    plus = _take_plus(words, at + 1)
    return None if plus is None else (("var", words[at], plus[0]), plus[1])


def _take_expression(words, at):
    """Takes an expression."""
    if not is_name(word_at(words, at)) or word_at(words, at + 1) != "[":
        return _take_plain(words, at)
    index = _take_plain(words, at + 2)
    if index is None or word_at(words, index[1]) != "]":
        return None
    plus = _take_plus(words, index[1] + 1)
    return None if plus is None else (("item", words[at], index[0], plus[0]), plus[1])


def _take_comparison(words, at):
    """Takes a comparison."""
    left = _take_expression(words, at)
    if left is None:
        return None
    sign = word_at(words, left[1])
    if sign not in SIGNS:
        return None
    right = _take_expression(words, left[1] + 1)
    return None if right is None else (("cmp", sign, left[0], right[0]), right[1])


def _take_joined(words, at, word, many_open):
    """Takes one condition, or several that are joined by a word, "or" or the tighter "and"."""
    parts = []
    while True:
        if word == "or":
            taken = _take_joined(words, at, "and", many_open)
        else:
            taken = _take_operand(words, at, many_open)
        if taken is None:
            return None
        part, at = taken
        parts.append(part)
        if word_at(words, at) != word:
            break
        at += 1
    if len(parts) == 1:
        return parts[0], at
    return (word, tuple(parts)), at


def _take_operand(words, at, many_open):
    """Takes a comparison, a not with its operand, or a condition in parentheses."""
    first = word_at(words, at)
    if first not in ("not", "("):
        return _take_comparison(words, at)
    if many_open == MOST_OPEN:
        return None
    if first == "not":
        operand = _take_operand(words, at + 1, many_open + 1)
        return None if operand is None else (("not", operand[0]), operand[1])
    inner = _take_joined(words, at + 1, "or", many_open + 1)
    if inner is None or word_at(words, inner[1]) != ")":
        return None
    return inner[0], inner[1] + 1


def _write_plus(plus):
    """The written form of what is added."""
    if plus == 0:
        return ""
    return f" + {plus}" if plus > 0 else f" - {-plus}"


def _write_below(word, part):
    """The written form of a condition that stands below a not, an "and" or an "or"."""
    text = write_condition(part)
    return f"({text})" if part[0] in PARENTHESES_BELOW[word] else text
