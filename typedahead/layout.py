"""Rows laid out, with their blanks where they belong."""

from typedahead.texts import MOST_SIGNS, rows_of, text_of
from typedahead.tokens import tokens
from typedahead.trees import stops


def laid_text(text):
    """The text with all its rows laid out."""
    return text_of([laid(row) for row in rows_of(text)])


def laid(row):
    """The row laid out; as it is, where it has stops or would come to be too long."""
    if stops(row):
        return row
    told = joined(tokens(row))
    return told if len(told) <= MOST_SIGNS else row


def joined(found):
    """The tokens one behind the other, parted by a blank where they stand apart."""
    pieces = []
    for number, token in enumerate(found):
        if number > 0 and apart(found[number - 1], token):
            pieces.append(" ")
        pieces.append(token[1])
    return "".join(pieces)


def apart(left, right):
    """Whether a blank stands between the two tokens."""
    if left[1] in ("(", "[") or right[1] in (")", "]", ","):
        return False
    return left[0] != "name" or right[1] != "("
