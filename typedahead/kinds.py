"""The kinds of parts and pieces, inferred."""

from typedahead.books import Book
from typedahead.rings import Ties
from typedahead.studies import Study


def part_kinds(house, file, row):
    """The list of pairs (n, kind) of a let or def row's parts, a part ahead of its own ones."""
    return part_kinds_in(Study(house), file, row)


def part_kinds_in(study, file, row):
    """As part_kinds, of a house that is studied."""
    read = study.book.row_at(file, row)
    if read is None or read.part is None:
        return []
    return [(part[1], kind) for part, kind, _ in study.looks[file, row].parts]


def piece_kinds(house):
    """The list of (file, NAME, params, kind) of all pieces, in order."""
    return piece_kinds_in(Study(house))


def piece_kinds_in(study):
    """As piece_kinds, of a house that is studied."""
    return [(file, name, *study.told[file, name][1:]) for file, name, _ in study.book.pieces()]


def ringed(house):
    """The list of pairs (file, NAME) of the pieces in rings, in order."""
    return Ties(Book(house)).in_rings()
