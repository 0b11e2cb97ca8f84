"""The lines of a desk, as they are read: files, and orders behind the line begin."""

from typedahead.errors import BadLine
from typedahead.names import is_house
from typedahead.texts import is_sign, rows_of, text_of
from typedahead.tokens import is_figure
from typedahead.words import is_name

MOST_FIGURES = 4
BEGIN = "begin"
FILE = "file "
BAR = "|"
# What stands behind each word of an order.
FORMS = {
    "put": ("editor", "name", "number", "number", "signs"),
    "cut": ("editor", "name", "number", "number", "number"),
    "split": ("editor", "name", "number", "number"),
    "lay": ("editor", "name"),
    "lead": ("editor", "name", "number", "number", "name"),
    "move": ("editor", "name", "number", "name"),
    "mend": ("editor", "number"),
    "undo": ("editor",),
    "redo": ("editor",),
    "rows": ("name",),
    "faults": (),
    "kinds": (),
    "values": (),
    "uses": ("name", "number", "number"),
    "offers": ("name", "number", "number"),
    "work": (),
}


def read_desk(text):
    """The pair of the house and the list of orders, pairs (word, things); refused with BadLine."""
    lines = rows_of(text)
    end = lines.index(BEGIN) if BEGIN in lines else len(lines)
    house = house_of(lines[:end])
    orders = [order_of(line) for line in lines[end + 1:]]
    if None in orders:
        raise BadLine(end + 1 + orders.index(None))
    if end == len(lines) or not is_house(house):
        raise BadLine(len(lines))
    return house, orders


def house_of(lines):
    """What the lines ahead of begin tell of, a house or none; refused with BadLine."""
    files = []
    for number, line in enumerate(lines):
        if line.startswith(BAR) and files:
            files[-1][1].append(line[len(BAR):])
        elif line.startswith(FILE) and is_name(line[len(FILE):]):
            files.append((line[len(FILE):], []))
        else:
            raise BadLine(number)
    return tuple([(name, text_of(rows)) for name, rows in files])


def order_of(line):
    """The pair (word, things) of an order; None where it isn't so written."""
    head, bar, signs = line.partition(" " + BAR)
    word, *given = head.split(" ")
    if word not in FORMS or (bar != "") != ("signs" in FORMS[word]):
        return None
    if bar != "":
        given.append(signs)
    if len(given) != len(FORMS[word]):
        return None
    things = [thing_of(sort, told) for sort, told in zip(FORMS[word], given)]
    return None if None in things else (word, things)


def thing_of(sort, word):
    """The thing of that sort that the word tells; None where it tells none."""
    if sort == "editor":
        return int(word) if word in ("0", "1") else None
    if sort == "number":
        return int(word) if is_plain(word) else None
    if sort == "signs":
        return word if all([is_sign(sign) for sign in word]) else None
    return word if is_name(word) else None


def is_plain(word):
    """Whether the word is a number in plain figures, without a nought ahead."""
    if not 1 <= len(word) <= MOST_FIGURES or not all([is_figure(sign) for sign in word]):
        return False
    return word == "0" or word[0] != "0"
