"""A row as it is read, with what its tokens make of it."""

from typedahead.tokens import tokens
from typedahead.trees import read


def own_parts(part):
    """The part's own parts, in order."""
    return part[2] if part[0] in ("call", "list") else part[2:]


def all_parts(part):
    """The list of the part and all that are in it, a part ahead of its own ones."""
    told = []
    waiting = [part]
    while waiting:
        first = waiting.pop()
        told.append(first)
        waiting.extend(own_parts(first)[::-1])
    return told


class Row:
    """A row that is read.

    word is its tree's first one, name the NAME that it takes or makes, part the part of a let or
    def row, params the pairs (NAME, kind) of a def row. What a row hasn't, or is wanting, is None.
    """

    def __init__(self, text):
        self.tokens = tokens(text)
        self.tree = read(self.tokens)[0]
        self.word = self.tree[0]
        self.name = self.text(self.tree[1]) if self.word in ("take", "let", "def") else None
        self.part = self.tree[-1] if self.word in ("let", "def") else None
        pairs = self.tree[2] if self.word == "def" else ()
        self.params = [(self.text(name), self.text(kind)) for name, kind in pairs]

    def text(self, number):
        """The text of the token of that number; None of None."""
        return None if number is None else self.tokens[number][1]

    def param_at(self, name):
        """The place among the params of the first one that has the NAME; None where none has."""
        for at, (told, _) in enumerate(self.params):
            if told == name:
                return at
        return None

    def named(self):
        """The list of the numbers of the NAMEs in the row's part, in order."""
        parts = [] if self.part is None else all_parts(self.part)
        return [part[1] for part in parts if part[0] in ("name", "call")]
