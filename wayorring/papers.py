"""Papers, written and read."""

from wayorring.errors import BadPaper
from wayorring.words import is_numeral

MOST_DIGITS = 12


class Paper:
    """What a search gives: the text of the program, what was looked for, the verdict, and the tokens of the tree."""

    def __init__(self, text, subject, verdict, tokens):
        self.text = text
        self.subject = subject
        self.verdict = verdict
        self.tokens = tokens

    def same(self, other):
        """True if all four attributes are equal, otherwise False."""
        if self.text != other.text or self.subject != other.subject:
            return False
        return self.verdict == other.verdict and self.tokens == other.tokens


def verdict_of(found):
    """The verdict for the least input that was found, or None."""
    return ("none",) if found is None else ("found", found)


def write_paper(paper):
    """The written form of a paper."""
    word, told = paper.subject
    rows = _text_rows("text", paper.text)
    rows.extend([f"place {told}"] if word == "place" else _text_rows("apart", told))
    rows.append(_with_spaces(paper.verdict[0], paper.verdict[1] if len(paper.verdict) > 1 else ()))
    rows.extend([_write_token(token) for token in paper.tokens])
    return "\n".join(rows)


def read_paper(text):
    """The Paper of a text. Raises BadPaper with the first row that is wrong."""
    reader = PaperReader(text.split("\n"))
    program = reader.take_lines(reader.take(_text_size))
    word, told = reader.take(_subject_of)
    subject = (word, told if word == "place" else reader.take_lines(told))
    verdict = reader.take(_verdict_of_line)
    tokens = [reader.take(_token_of)]
    while not reader.is_done():
        tokens.append(reader.take(_token_of))
    return Paper(program, subject, verdict, tuple(tokens))


class PaperReader:
    """Takes the rows of a paper, one after the other. Raises BadPaper where one is wrong or missing."""

    def __init__(self, lines):
        self._lines = lines
        self._taken = 0

    def is_done(self):
        """True if there are no more rows."""
        return self._taken == len(self._lines)

    def take(self, form):
        """What the next row is; the form is a function that tells it, or None if the row is wrong."""
        found = form(self.take_lines(1))
        if found is None:
            raise BadPaper(self._taken)
        return found

    def take_lines(self, many):
        """The text that the next rows make."""
        lines = self._lines[self._taken:self._taken + many]
        if len(lines) < many:
            raise BadPaper(len(self._lines) + 1)
        self._taken += many
        return "\n".join(lines)


def _text_rows(word, text):
    """The rows of a program's text behind their number."""
    lines = text.split("\n")
    return [f"{word} {len(lines)}", *lines]


def _write_token(token):
    if token[0] == "met":
        return _with_spaces("met", [",".join([str(number) for number in floor]) for floor in token[1]])
    return _with_spaces(token[0], token[1] if len(token) > 1 else ())


def _with_spaces(word, parts):
    return " ".join([word, *[str(part) for part in parts]])


def _text_size(line):
    return _size_behind("text", line)


def _subject_of(line):
    """("place", its text), or ("apart", the number of rows of the other text)."""
    if line.startswith("place "):
        return ("place", line[len("place "):])
    size = _size_behind("apart", line)
    return None if size is None else ("apart", size)


def _verdict_of_line(line):
    parts = line.split(" ")
    if parts == ["none"]:
        return ("none",)
    return _with_numbers("found", parts, [_signed_number(part) for part in parts[1:]])


def _token_of(line):
    parts = line.split(" ")
    if parts in (["on"], ["over"]):
        return (parts[0],)
    if parts[0] == "met":
        return _with_numbers("met", parts, [_numbers_between_commas(part) for part in parts[1:]])
    return _with_numbers("dead", parts, [_number(part) for part in parts[1:]])


def _with_numbers(word, parts, numbers):
    """The tuple of a word and the numbers behind it; None if it is another word, or one is wrong, or there is none."""
    if parts[0] != word or not numbers or None in numbers:
        return None
    return (word, tuple(numbers))


def _size_behind(word, line):
    """The number of rows that stands behind a word."""
    parts = line.split(" ")
    size = _number(parts[-1])
    return None if len(parts) != 2 or parts[0] != word or size == 0 else size


def _number(part):
    return int(part) if is_numeral(part, MOST_DIGITS) else None


def _signed_number(part):
    if not part.startswith("-"):
        return _number(part)
    size = _number(part[1:])
    return None if size is None or size == 0 else -size


def _numbers_between_commas(part):
    numbers = [_number(each) for each in part.split(",")]
    return None if None in numbers else tuple(numbers)
