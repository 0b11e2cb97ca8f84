"""The kinds of parts and pieces, inferred."""

from typedahead.books import Book
from typedahead.rings import Ties
from typedahead.rows import own_parts

LIST_OF = {"num": "nums", "word": "words", "flag": "flags"}
ITEM_OF = {"nums": "num", "words": "word", "flags": "flag"}
LONE_KINDS = {"number": "num", "word": "word", "held": "flag"}
# Of the operators whose kind doesn't hang on their parts: all but at.
SIGN_KINDS = {"+": "num", "-": "num", "*": "num", "&": "word", "<": "flag", "=": "flag"}


def part_kinds(house, file, row):
    """The list of pairs (n, kind) of a let or def row's parts, a part ahead of its own ones."""
    book = Book(house)
    read = book.row_at(file, row)
    return [] if read is None or read.part is None else Kinds(book).row_kinds(file, row)


def piece_kinds(house):
    """The list of (file, NAME, params, kind) of all pieces, in order."""
    book = Book(house)
    told = Kinds(book).told
    return [(file, name, told_params(book.row_at(file, row)), told[file, name])
            for file, name, row in book.pieces()]


def ringed(house):
    """The list of pairs (file, NAME) of the pieces in rings, in order."""
    return Ties(Book(house)).in_rings()


def told_params(row):
    """The tuple of the kinds of a def row's params; None of a let row."""
    return tuple([kind for _, kind in row.params]) if row.word == "def" else None


def list_kind(kinds):
    """The kind of a list whose items are of these kinds."""
    for kind in kinds:
        if kind in LIST_OF:
            return LIST_OF[kind]
    return None


def token_kind(token, kinds):
    """The kind of a part that is a number, a word, yes or no, or has parts of these kinds and
    the token as its operator."""
    sort, text, _ = token
    if not kinds:
        return LONE_KINDS[sort]
    return ITEM_OF.get(kinds[0]) if text == "at" else SIGN_KINDS[text]


class Kinds:
    """The kinds that a book tells: told has those of its pieces, by pairs (file, NAME)."""

    def __init__(self, book):
        self.book = book
        ties = Ties(book)
        self.told = {pair: None for pair in ties.in_rings()}
        for file, name in ties.in_turn():
            if (file, name) not in self.told:
                self.told[file, name] = self.row_kinds(file, book.made[file][name])[0][1]

    def row_kinds(self, file, number):
        """The list of pairs (n, kind) of the parts of that let or def row."""
        return self.kinds_in(file, number, self.book.row_at(file, number).part)

    def kinds_in(self, file, number, part):
        """The list of pairs (n, kind) of a row's part and all that are in it."""
        inner = []
        kinds = []
        for own in own_parts(part):
            pairs = self.kinds_in(file, number, own)
            inner.extend(pairs)
            kinds.append(pairs[0][1])
        return [(part[1], self.kind_by(file, number, part, kinds))] + inner

    def kind_by(self, file, number, part, kinds):
        """The kind of a row's part whose own parts are of these kinds."""
        word = part[0]
        if word == "hole":
            return None
        if word in ("name", "call"):
            return self.named_kind(file, number, part)
        if word == "list":
            return list_kind(kinds)
        if word == "round":
            return kinds[0]
        if word == "if":
            return kinds[2] if kinds[1] is None else kinds[1]
        return token_kind(self.book.row_at(file, number).tokens[part[1]], kinds)

    def named_kind(self, file, number, part):
        """The kind of a NAME in a row's part, alone or called."""
        there = self.book.meant(file, number, part)
        if there is None:
            return None
        if there[0] == "piece":
            return self.told[there[1:]]
        row = self.book.row_at(file, number)
        return row.params[row.param_at(there[3])][1]
