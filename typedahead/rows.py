"""A row as it is read, with what its tokens make of it."""

from typedahead.tokens import tokens
from typedahead.trees import read


def own_parts(part):
    """The part's own parts, in order."""
    return part[2] if part[0] in ("call", "list") else part[2:]


def all_parts(part):
    """The list of the part and all that are in it, a part ahead of its own ones."""
    told = []
    waiting = [part]
    while waiting:
        first = waiting.pop()
        told.append(first)
        waiting.extend(own_parts(first)[::-1])
    return told


class Row:
    """A row that is read.

    word is its tree's first one, name the NAME that it takes or makes, part the part of a let or
    def row, params the pairs (NAME, kind) of a def row. What a row hasn't, or is wanting, is None.
    parts are all that are in its part, named the numbers of the NAMEs in it, in order.
    """

    def __init__(self, text):
        self.size = len(text)
        self.tokens = tokens(text)
        self.tree, self.stops = read(self.tokens)
        self.word = self.tree[0]
        self.name = self.text(self.tree[1]) if self.word in ("take", "let", "def") else None
        self.part = self.tree[-1] if self.word in ("let", "def") else None
        self.params = [(self.text(name), self.text(kind)) for name, kind in self.param_tokens()]
        self.parts = [] if self.part is None else all_parts(self.part)
        self.named = [part[1] for part in self.parts if part[0] in ("name", "call")]
        self.flaws = self.found_flaws()

    def text(self, number):
        """The text of the token of that number; None of None."""
        return None if number is None else self.tokens[number][1]

    def column(self, number):
        """Where the token of that number begins; the row's end where there is none."""
        return self.tokens[number][2] if number < len(self.tokens) else self.size

    def param_tokens(self):
        """The pairs of the numbers of a def row's params; of another row none."""
        return self.tree[2] if self.word == "def" else ()

    def param_at(self, name):
        """The place among the params of the first one that has the NAME; None where none has."""
        for at, (told, _) in enumerate(self.params):
            if told == name:
                return at
        return None

    def found_flaws(self):
        """The faults that the row has by itself, whatever stands in others: (column, word, what)."""
        told = [(self.column(number), word, text) for word, number, text in self.stops]
        told.extend([(column, "odd", "") for sort, _, column in self.tokens if sort == "odd"])
        for at, (name, _) in enumerate(self.param_tokens()):
            if name is not None and self.param_at(self.text(name)) != at:
                told.append((self.column(name), "twice", ""))
        return told
