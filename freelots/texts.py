"""Tables written as texts."""

from freelots.checks import FIELDS, MOST_ROWS, MOST_WIDTH
from freelots.errors import BadText

EMPTY_ROW = "-"


def write_row(row):
    """Return the line of a row."""
    return " ".join([str(number) for number in row]) if len(row) > 0 else EMPTY_ROW


def write_rows(rows, field):
    """Return the text of a table."""
    return "\n".join([f"field {field}"] + [write_row(row) for row in rows])


def is_number(word, field):
    """Tell whether a word is an integer that a row of this field can have, as Python writes it."""
    digits = word[1:] if field == 0 and word.startswith("-") else word
    if not digits.isascii() or not digits.isdigit():
        return False
    if digits.startswith("0"):
        return word == "0"
    return field == 0 or len(digits) <= 2 and int(digits) < field


def read_row(line, field):
    """Return the integers of a line, None if it is no row."""
    if line == EMPTY_ROW:
        return []
    words = line.split(" ")
    if len(words) > MOST_WIDTH or not all([is_number(word, field) for word in words]):
        return None
    return [int(word) for word in words]


def read_rows(text):
    """Return the rows and the field of the table that has this text."""
    lines = text.split("\n")
    if lines[0] not in [f"field {field}" for field in FIELDS]:
        raise BadText(1)
    field = int(lines[0][len("field "):])
    rows = []
    for number, line in enumerate(lines[1:], start=2):
        row = read_row(line, field)
        if row is None or len(rows) == MOST_ROWS:
            raise BadText(number)
        if len(rows) > 0 and len(row) != len(rows[0]):
            raise BadText(number)
        rows.append(row)
    return rows, field
