"""What stands in a row."""

from typedahead.words import HELD, is_letter, is_name

MOST_FIGURES = 6
QUOTE = '"'
LONE_SIGNS = ("(", ")", "[", "]", ",", "=", "+", "-", "*", "&", "<")


def tokens(row):
    """The list of what stands in the row: tuples (sort, text, column), from the left."""
    told = []
    column = 0
    while column < len(row):
        if row[column] == " ":
            column += 1
        else:
            sort, text = token_at(row, column)
            told.append((sort, text, column))
            column += len(text)
    return told


def token_at(row, column):
    """The pair (sort, text) of what begins at the column."""
    sign = row[column]
    if is_letter(sign):
        text = run_at(row, column, is_letter)
        return letters_sort(text), text
    if is_figure(sign):
        text = run_at(row, column, is_figure)
        return "number" if len(text) <= MOST_FIGURES else "odd", text
    if sign == QUOTE:
        return quoted_at(row, column)
    return "sign" if sign in LONE_SIGNS else "odd", sign


def is_figure(sign):
    """Whether the sign is one of 0 to 9."""
    return "0" <= sign <= "9"


def run_at(row, column, belongs):
    """All signs from the column on, one behind the other, that belong."""
    end = column
    while end < len(row) and belongs(row[end]):
        end += 1
    return row[column:end]


def letters_sort(text):
    """The sort of a run of letters."""
    if text in HELD:
        return "held"
    return "name" if is_name(text) else "odd"


def quoted_at(row, column):
    """The pair (sort, text) of what begins with a quote."""
    end = row.find(QUOTE, column + 1)
    if end < 0:
        return "odd", row[column:]
    return "word", row[column:end + 1]
