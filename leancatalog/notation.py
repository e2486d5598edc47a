"""Texts of values, statements and scripts. Each value has exactly one text."""

from leancatalog.errors import NoText, Stopped
from leancatalog.statements import is_statement
from leancatalog.words import is_name

DEEPEST = 40
MOST_DIGITS = 40

# What stands behind a backslash for each character that does not stand between quotation marks itself.
ESCAPES = {"\\": "\\", "\"": "\"", "\n": "n"}
ESCAPED = {"\\": "\\", "\"": "\"", "n": "\n"}


def quoted(text):
    """A string that is no name, between quotation marks."""
    told = ["\\" + ESCAPES[sign] if sign in ESCAPES else sign for sign in text]
    return "\"" + "".join(told) + "\""


def show(value):
    """The text of a value."""
    if value is None:
        return "-"
    if isinstance(value, tuple):
        return "[" + show_statement(value) + "]"
    if isinstance(value, str):
        return value if is_name(value) else quoted(value)
    return str(value)


def show_statement(statement):
    """The text of a statement: that of its tuple without the outer brackets."""
    return " ".join([show(part) for part in statement])


def show_script(statements):
    """The text of a list of statements, each followed by a line feed."""
    return "".join([show_statement(statement) + "\n" for statement in statements])


# What reads a value takes the text and the index where the value begins, and returns it with the index behind it.


def plain_at(text, start):
    """A value that is no tuple and stands between no quotation marks."""
    end = start
    while end < len(text) and text[end] not in " ]":
        end += 1
    word = text[start:end]
    if word == "-":
        return (None, end)
    if is_name(word):
        return (word, end)
    if is_number(word):
        return (int(word), end)
    raise NoText()


def is_number(word):
    """Whether a string is the text of an integer."""
    digits = word.removeprefix("-")
    if not digits.isascii() or not digits.isdigit() or len(digits) > MOST_DIGITS:
        return False
    return digits[0] != "0" or word == "0"


def quoted_at(text, start):
    """A string between quotation marks."""
    parts = []
    at = start + 1
    while text[at:at + 1] != "\"":
        sign = text[at:at + 1]
        if sign == "\\":
            at += 1
            sign = ESCAPED.get(text[at:at + 1], "")
        elif sign == "\n":
            sign = ""
        if sign == "":
            raise NoText()
        parts.append(sign)
        at += 1
    told = "".join(parts)
    if is_name(told):
        raise NoText()
    return (told, at + 1)


def tuple_at(text, start, depth):
    """A tuple that stands in so many others, itself counted."""
    if depth > DEEPEST:
        raise NoText()
    if text[start + 1:start + 2] == "]":
        return ((), start + 2)
    parts = []
    at = start
    while not parts or text[at:at + 1] == " ":
        part, at = value_at(text, at + 1, depth)
        parts.append(part)
    if text[at:at + 1] != "]":
        raise NoText()
    return (tuple(parts), at + 1)


def value_at(text, start, depth):
    """Any value that stands in so many tuples."""
    sign = text[start:start + 1]
    if sign == "[":
        return tuple_at(text, start, depth + 1)
    if sign == "\"":
        return quoted_at(text, start)
    return plain_at(text, start)


def read_value(text):
    """The value that a text, any value, writes."""
    if not isinstance(text, str):
        raise NoText()
    value, end = value_at(text, 0, 0)
    if end < len(text):
        raise NoText()
    return value


def read_statement(text):
    """The statement that a text, any value, writes."""
    if not isinstance(text, str):
        raise NoText()
    statement = read_value("[" + text + "]")
    if not is_statement(statement):
        raise NoText()
    return statement


def read_script(text):
    """The list of the statements that a text, any value, writes."""
    if not isinstance(text, str):
        raise NoText()
    lines = text.split("\n")
    rest = lines.pop()
    statements = []
    for at, line in enumerate(lines):
        try:
            statements.append(read_statement(line))
        except NoText as why:
            raise Stopped(at) from why
    if rest:
        raise Stopped(len(lines))
    return statements
