"""The words that are offered at a place."""

from typedahead.errors import NoName
from typedahead.faults import faults_in
from typedahead.names import row_of
from typedahead.studies import Study
from typedahead.texts import at_of
from typedahead.trials import tried
from typedahead.trees import FLAGS


def offers(house, place, *, begin=""):
    """The rising list of the words that fit at the place and begin so; refused with NoName."""
    return offers_in(Study(house), place, begin)


def offers_in(study, place, begin):
    """As offers, of a house that is studied."""
    many = gap(study.book, place)
    file, number, column = place
    at = at_of(study.book.texts[file], number, column)
    told = faults_in(study)
    words = [word for word in candidates(study.book, file, number) if word.startswith(begin)]
    # The word stands behind a blank.
    own = (file, number, column + 1)
    return [word for word in sorted(words) if fits(study, told, own, (at, many, " " + word + " "))]


def gap(book, place):
    """How many signs a word at the place is put for: those of a NAME in a part that isn't a
    call's, none at a hole; refused with NoName."""
    row = row_of(book, place)
    if row is not None:
        for part in row.parts:
            if part[0] in ("name", "hole") and row.column(part[1]) == place[2]:
                return len(row.text(part[1])) if part[0] == "name" else 0
    raise NoName(place)


def candidates(book, file, number):
    """The list of yes, no, and all NAMEs that stand for a let piece or a param in that row's part."""
    names = {name: True for name, _ in book.row_at(file, number).params if name is not None}
    names.update(book.scope[file])
    return [*FLAGS, *[name for name in names if is_worth(book, book.stands_for(file, number, name))]]


def is_worth(book, told):
    """Whether the target is a let piece or a param."""
    return told is not None and (told[0] == "param" or book.maker(told[1], told[2]).word == "let")


def fits(study, told, own, edit):
    """Whether the edit brings no fault, and none is told at the word's own place; told are those ahead."""
    outcome = tried(study, told, own[0], edit)
    if outcome is None:
        return False
    after, ahead = outcome
    allowed = {fault: True for fault in ahead}
    return all([fault in allowed and fault[0] != own for fault in after])
