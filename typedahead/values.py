"""The values of let pieces, reckoned."""

from typedahead.books import Book
from typedahead.looks import LIST_OF
from typedahead.rings import Ties
from typedahead.rows import own_parts

MOST_NUMBER = 1000000
MOST_LETTERS = 200
MOST_PARTS = 200


def values(house):
    """The list of (file, NAME, value) of all let pieces, in order."""
    book = Book(house)
    return values_in(book, Ties(book).ringed)


def values_in(book, ringed):
    """As values, of a house that is read, and whose pieces in rings are the keys of ringed."""
    lets = [piece for piece in book.pieces() if book.maker(piece[0], piece[1]).word == "let"]
    return [(file, name, Reckoner(book, ringed).value(file, name)) for file, name, _ in lets]


class Reckoner:
    """Reckons one value; many counts the parts that it looked at.

    A part comes to None where it has no value. Where it stands is told by a tuple (file, row,
    params), params the things that the NAMEs of its row's params stand for.
    """

    def __init__(self, book, ringed):
        self.book = book
        self.ringed = ringed
        self.many = 0

    def value(self, file, name):
        """The value of that let piece."""
        due = self.piece_part(file, name, [])
        return None if due is None else self.come(due[0], due[1])

    def come(self, part, here):
        """What the part comes to."""
        due = (part, here)
        # What comes in a part's place is looked at in this same call: so calls don't grow deep.
        while due is not None:
            part, here = due
            self.many += 1
            if self.many > MOST_PARTS:
                return None
            things = []
            for own in first_parts(part):
                thing = self.come(own, here)
                if thing is None:
                    return None
                things.append(thing)
            due = self.instead(part, here, things)
        return self.outcome(part, here, things)

    def instead(self, part, here, things):
        """The part that is looked at in the part's place, and where it stands; None where none is."""
        if part[0] == "if" and isinstance(things[0], bool):
            return (part[3] if things[0] else part[4]), here
        if part[0] not in ("name", "call"):
            return None
        there = self.book.meant(here[0], here[1], part)
        if there is None or there[0] == "param":
            return None
        return self.piece_part(there[1], there[2], things)

    def piece_part(self, file, name, things):
        """The piece's part, and where it stands, with these things as params; None where there's none."""
        if (file, name) in self.ringed:
            return None
        row = self.book.maker(file, name)
        params = bound(row.params, things)
        return None if params is None else (row.part, (file, self.book.made[file][name], params))

    def outcome(self, part, here, things):
        """What a part comes to in whose place no other one is looked at."""
        row = self.book.row_at(here[0], here[1])
        if part[0] == "lone":
            return lone_thing(row.tokens[part[1]])
        if part[0] == "name":
            # A param's: what else it may stand for was looked at instead, or has no value.
            return here[2].get(row.text(part[1]))
        if part[0] == "list":
            return listed(things)
        if part[0] == "round":
            return things[0]
        if part[0] == "op":
            return operated(row.text(part[1]), things[0], things[1])
        return None


def first_parts(part):
    """The part's own parts that are looked at ahead of all else: of an if just the first one."""
    return own_parts(part)[:1] if part[0] == "if" else own_parts(part)


def bound(params, things):
    """What each NAME of the params stands for; None where the things don't fit these."""
    if len(params) != len(things):
        return None
    told = {}
    for (name, kind), thing in zip(params, things):
        if kind is not None and kind_of(thing) != kind:
            return None
        told.setdefault(name, thing)
    return told


def kind_of(thing):
    """The kind of a number, a text, True or False, or a list of these."""
    if isinstance(thing, list):
        return LIST_OF[kind_of(thing[0])]
    if isinstance(thing, bool):
        return "flag"
    return "num" if isinstance(thing, int) else "word"


def lone_thing(token):
    """The number, the text, True or False that a token stands for."""
    sort, text, _ = token
    if sort == "number":
        return int(text)
    return text[1:-1] if sort == "word" else text == "yes"


def listed(things):
    """The list of the things; None where they aren't of one kind that may stand in a list."""
    kind = kind_of(things[0])
    return things if kind in LIST_OF and all([kind_of(thing) == kind for thing in things]) else None


def operated(sign, left, right):
    """What the operator makes of the two; None where one is unfit, or it's beyond the bounds."""
    kinds = (kind_of(left), kind_of(right))
    if sign == "=":
        return left == right if kinds[0] == kinds[1] else None
    if sign == "at":
        return item(left, right) if isinstance(left, list) and kinds[1] == "num" else None
    if sign == "&":
        return joined(left, right) if kinds == ("word", "word") else None
    return reckoned(sign, left, right) if kinds == ("num", "num") else None


def item(things, at):
    """The thing at that place of the list, where it has such a place."""
    return things[at] if 0 <= at < len(things) else None


def joined(left, right):
    """Both texts as one, where that isn't too long."""
    return left + right if len(left) + len(right) <= MOST_LETTERS else None


def reckoned(sign, left, right):
    """What the sign between two numbers comes to, where that isn't a number beyond the bounds."""
    if sign == "<":
        return left < right
    if sign == "*":
        told = left * right
    else:
        told = left + right if sign == "+" else left - right
    return told if -MOST_NUMBER <= told <= MOST_NUMBER else None
