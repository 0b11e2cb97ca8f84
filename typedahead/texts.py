"""Texts, their rows, and the places in them."""

MOST_ROWS = 24
MOST_SIGNS = 60
# The percent sign, by its number: the subset allows it in no string.
NO_SIGN = 37


def is_text(thing):
    """Whether the thing is a text."""
    if not isinstance(thing, str):
        return False
    rows = rows_of(thing)
    return len(rows) <= MOST_ROWS and all([is_row(row) for row in rows])


def is_row(row):
    """Whether the string may be a row of a text."""
    return len(row) <= MOST_SIGNS and all([is_sign(sign) for sign in row])


def is_sign(sign):
    """Whether the single character is a sign; a line feed is none."""
    return " " <= sign <= "~" and ord(sign) != NO_SIGN


def rows_of(text):
    """The list of the text's rows; the bare text has one."""
    # Not splitlines, which parts at other characters too and drops a last bare row.
    return text.split("\n")


def text_of(rows):
    """The text that has these rows."""
    return "\n".join(rows)


def spot(text, at):
    """The pair (row, column) of the place at; a line feed is the end of its row."""
    ahead = rows_of(text[:at])
    return len(ahead) - 1, len(ahead[-1])


def at_of(text, row, column):
    """The place of that row and column."""
    # Each row ahead takes one place more than its signs, for its line feed.
    return sum([len(ahead) + 1 for ahead in rows_of(text)[:row]]) + column
