"""Rows read as trees, also where they are faulty."""

from typedahead.tokens import tokens
from typedahead.words import KINDS

OPERATORS = ("+", "-", "*", "&", "=", "<", "at")
FLAGS = ("yes", "no")


def tree(row):
    """The row's tree, whatever stands in it."""
    return read(tokens(row))[0]


def stops(row):
    """The list of what is wanting in the row, and of what stands beyond it, as read."""
    return read(tokens(row))[1]


class Reader:
    """Reads tokens from the left; what is wanting becomes a stop, and no token is left out."""

    def __init__(self, found):
        self.found = found
        self.at = 0
        self.stops = []

    def here(self):
        """The pair (sort, text) of the next token; two bare texts where there is none."""
        return self.found[self.at][:2] if self.at < len(self.found) else ("", "")

    def stands(self, text):
        """Whether that sign or held word is next: tokens of other sorts have other texts."""
        return self.here()[1] == text

    def step(self):
        """Goes behind the next token; told is its number."""
        self.at += 1
        return self.at - 1

    def stop(self, word, text):
        """Keeps what is wanting here, or is too much."""
        self.stops.append((word, self.at, text))

    def read_sign(self, text):
        """Reads a sign, then or else."""
        if self.stands(text):
            self.step()
        else:
            self.stop("sign", text)

    def read_name(self):
        """Reads a NAME; told is its number, None where it's wanting."""
        if self.here()[0] == "name":
            return self.step()
        self.stop("name", "")
        return None

    def read_kind(self):
        """Reads a kind; told is its number, None where it's wanting."""
        if self.here()[1] in KINDS:
            return self.step()
        self.stop("told", "")
        return None

    def read_param(self):
        """Reads a NAME and a kind."""
        name = self.read_name()
        return (name, self.read_kind())

    def read_part(self):
        """Reads a part with its operators; each makes one of all that was read so far."""
        told = self.read_single()
        while self.here()[1] in OPERATORS:
            number = self.step()
            told = ("op", number, told, self.read_single())
        return told

    def read_single(self):
        """Reads a single part."""
        sort, text = self.here()
        if sort in ("number", "word") or text in FLAGS:
            return ("lone", self.step())
        if sort == "name":
            return self.read_named()
        if text == "[":
            return ("list", self.step(), self.read_parts("]"))
        if text == "(":
            return self.read_round()
        if text == "if":
            return self.read_if()
        self.stop("part", "")
        return ("hole", self.at)

    def read_named(self):
        """Reads a NAME in a part, with what it's called with."""
        number = self.step()
        if not self.stands("("):
            return ("name", number)
        self.step()
        return ("call", number, self.read_parts(")"))

    def read_parts(self, end):
        """Reads parts, one at least, and the sign that ends them."""
        told = [self.read_part()]
        while self.stands(","):
            self.step()
            told.append(self.read_part())
        self.read_sign(end)
        return tuple(told)

    def read_round(self):
        """Reads a part in round brackets."""
        number = self.step()
        inner = self.read_part()
        self.read_sign(")")
        return ("round", number, inner)

    def read_if(self):
        """Reads an if with its three parts."""
        number = self.step()
        asked = self.read_part()
        self.read_sign("then")
        first = self.read_part()
        self.read_sign("else")
        return ("if", number, asked, first, self.read_part())


def read_take(reader):
    """The tree of a row behind its take."""
    return ("take", reader.read_name())


def read_let(reader):
    """The tree of a row behind its let."""
    name = reader.read_name()
    reader.read_sign("=")
    return ("let", name, reader.read_part())


def read_def(reader):
    """The tree of a row behind its def."""
    name = reader.read_name()
    reader.read_sign("(")
    params = [reader.read_param()]
    while reader.stands(","):
        reader.step()
        params.append(reader.read_param())
    reader.read_sign(")")
    reader.read_sign("=")
    return ("def", name, tuple(params), reader.read_part())


ROWS = {"take": read_take, "let": read_let, "def": read_def}


def read(found):
    """The pair (tree, stops) of a row that has these tokens."""
    if not found:
        return ("bare",), []
    read_row = ROWS.get(found[0][1])
    if read_row is None:
        return ("odd",), [("start", 0, "")]
    reader = Reader(found)
    reader.step()
    told = read_row(reader)
    if reader.at < len(found):
        reader.stop("extra", "")
    return told, reader.stops
