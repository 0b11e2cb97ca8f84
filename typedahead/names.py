"""Houses, their pieces, and what each name in them stands for."""

from typedahead.books import Book
from typedahead.errors import NoName
from typedahead.texts import is_text
from typedahead.things import is_count
from typedahead.words import is_name

MOST_FILES = 6


def is_house(thing):
    """Whether the thing is a house."""
    if not isinstance(thing, tuple) or not 1 <= len(thing) <= MOST_FILES:
        return False
    return all([is_file(pair) for pair in thing]) and len({name for name, _ in thing}) == len(thing)


def is_file(thing):
    """Whether the thing is a pair of a NAME and a text."""
    return isinstance(thing, tuple) and len(thing) == 2 and is_name(thing[0]) and is_text(thing[1])


def target(house, place):
    """What the name token at the place stands for, None where nothing; refused with NoName."""
    return target_in(Book(house), place)


def uses(house, place):
    """The list of the places of all name tokens of the same target; refused with NoName."""
    return uses_in(Book(house), place)


def uses_in(book, place):
    """As uses, of a house that is read."""
    same = target_in(book, place)
    if same is None:
        raise NoName(place)
    return [other for other, told in book.targets() if told == same]


def pieces(house):
    """The list of (file, NAME, row) of all pieces, in order."""
    return Book(house).pieces()


def target_in(book, place):
    """As target, of a house that is read."""
    if row_of(book, place) is not None:
        for other, told in book.row_targets(place[0], place[1]):
            if other == tuple(place):
                return told
    raise NoName(place)


def row_of(book, place):
    """The row that the place, or the thing that may be one, is in; None where there is none."""
    is_place = isinstance(place, (list, tuple)) and len(place) == 3 and is_count(place[2])
    return book.row_at(place[0], place[1]) if is_place else None
