"""The words of a row."""

LETTERS = "abcdefghijklmnopqrstuvwxyz"
DIGITS = "0123456789"
LONG_SIGNS = ("<=", ">=", "==", "!=")
SHORT_SIGNS = "<>=+-()[],:"
RESERVED = (
    "input", "from", "to", "list", "def", "let", "if", "else", "end", "while", "at", "most", "check", "refuse",
    "answer", "return", "skip", "and", "or", "not", "row", "yes", "no", "turn", "fault", "when", "then",
)
MOST_LETTERS = 12
MOST_DIGITS = 10


def split_row(text):
    """The words of a row, or None if a character other than a space belongs to no word."""
    words = []
    at = 0
    while at < len(text):
        if text[at] == " ":
            at += 1
            continue
        end = _word_end(text, at)
        if end == at:
            return None
        words.append(text[at:end])
        at = end
    return words


def is_name(word):
    """True if a text is a name, otherwise False."""
    if not 1 <= len(word) <= MOST_LETTERS or word in RESERVED:
        return False
    return _run_end(word, 0, LETTERS) == len(word)


def is_number(word):
    """True if a text is a number, otherwise False."""
    return is_numeral(word, MOST_DIGITS)


def is_numeral(word, most):
    """True if a text is a run of at most so many digits without a leading zero, except for 0 itself."""
    if not 1 <= len(word) <= most:
        return False
    if word[0] == "0":
        return word == "0"
    return _run_end(word, 0, DIGITS) == len(word)


def word_at(words, at):
    """The word at a place, or "", which is no word, behind the last one."""
    return words[at] if at < len(words) else ""


def parts_between(words, joint):
    """The lists of the words before, between and behind the words that are a joint."""
    parts = [[]]
    for word in words:
        if word == joint:
            parts.append([])
        else:
            parts[-1].append(word)
    return parts


def _word_end(text, at):
    """The place behind the word that begins at a place; that place itself if none does."""
    if text[at] in LETTERS:
        return _run_end(text, at, LETTERS)
    if text[at] in DIGITS:
        return _run_end(text, at, DIGITS)
    if text[at:at + 2] in LONG_SIGNS:
        return at + 2
    if text[at] in SHORT_SIGNS:
        return at + 1
    return at


def _run_end(text, at, characters):
    """The place behind the longest run of certain characters that begins at a place."""
    while at < len(text) and text[at] in characters:
        at += 1
    return at
