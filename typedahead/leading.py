"""Names led over to another NAME."""

from typedahead.books import Book
from typedahead.errors import BadName, Clash, NoName, TooLong
from typedahead.names import is_house, target_in
from typedahead.texts import rows_of, text_of
from typedahead.words import is_name


def led(house, place, name):
    """The house with the NAME at the place, and all tokens of the same target, called name;
    refused with BadName, NoName, TooLong, Clash."""
    if not is_name(name):
        raise BadName(name)
    book = Book(house)
    due = target_in(book, place)
    if due is None or due[0] == "file":
        raise NoName(place)
    ahead = book.targets()
    places = [other for other, told in ahead if told == due]
    after = renamed(house, places, len(due[-1]), name)
    if not is_house(after):
        raise TooLong()
    for (other, told), (_, now) in zip(ahead, Book(after, book).targets()):
        if now != (due[:-1] + (name,) if told == due else told):
            raise Clash(other)
    return after


def renamed(house, places, many, name):
    """The house with the NAMEs of so many signs at these places called name."""
    told = []
    for file, text in house:
        rows = rows_of(text)
        # From the last one on: so those ahead of it stay where they are.
        for other, number, column in places[::-1]:
            if other == file:
                rows[number] = rows[number][:column] + name + rows[number][column + many:]
        told.append((file, text_of(rows)))
    return tuple(told)
