"""Edits that are tried on a house: its faults behind them, and where those ahead stand then."""

from typedahead.edits import done, shifted
from typedahead.errors import TooLong
from typedahead.faults import faults_in
from typedahead.studies import Study
from typedahead.texts import at_of, spot


def with_text(house, file, text):
    """The house with that text as the file's."""
    return tuple([(other, text if other == file else told) for other, told in house])


def tried(study, told, file, edit):
    """The pair of the faults behind an edit of that file's text and of the told ones ahead, these
    shifted, each in its order; None where the text would be too long."""
    text = study.book.texts[file]
    try:
        after = done(text, edit)
    except TooLong:
        return None
    moved_on = [(shifted_place(place, file, edit, text, after), word, what) for place, word, what in told]
    return faults_in(Study(with_text(study.whole, file, after), study)), moved_on


def shifted_place(place, file, edit, text, after):
    """Where a place is behind the edit, by which the file's text became the one after."""
    other, row, column = place
    if other != file:
        return place
    return (file, *spot(after, shifted(at_of(text, row, column), edit, ahead=False)))
