"""Papers: all that is told of a house, and whether a thing is just that."""

from typedahead.books import Book
from typedahead.errors import BadName, Clash, NoName, TooLong
from typedahead.kinds import part_kinds_in
from typedahead.leading import led
from typedahead.studies import Study
from typedahead.things import same, tupled
from typedahead.values import values


def name_paper(house):
    """The list of pairs (place, target) of all name tokens, in order."""
    return Book(house).targets()


def kind_paper(house):
    """The list of tuples (file, row, part_kinds) of all let and def rows, in order."""
    study = Study(house)
    return [(file, number, part_kinds_in(study, file, number))
            for file in study.book.files for number, row in enumerate(study.book.rows[file]) if row.part is not None]


def value_paper(house):
    """The values of all let pieces, in order."""
    return values(house)


def house_paper(house):
    """The tuple of the house's three papers."""
    return name_paper(house), kind_paper(house), value_paper(house)


def shows_names(house, thing):
    """Whether the thing is just the house's name paper."""
    return same(thing, name_paper(house))


def shows_kinds(house, thing):
    """Whether the thing is just the house's kind paper."""
    return same(thing, kind_paper(house))


def shows_values(house, thing):
    """Whether the thing is just the house's value paper."""
    return same(thing, value_paper(house))


def shows_house(house, thing):
    """Whether the thing is just the house's paper."""
    return same(thing, house_paper(house))


def led_paper(house, place, name):
    """The list of pairs (place ahead, place behind) of all name tokens, in order; refused as led."""
    after = name_paper(led(house, place, name))
    return [(ahead, behind) for (ahead, _), (behind, _) in zip(name_paper(house), after)]


def shows_led(house, place, name, other, thing):
    """Whether the thing is just the paper of a leading over, and other the house behind it; False
    where that is refused."""
    try:
        after = led(house, place, name)
    except (BadName, NoName, TooLong, Clash):
        return False
    return same(tupled(other), after) and same(thing, led_paper(house, place, name))
