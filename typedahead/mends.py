"""The mends of a fault."""

from typedahead.faults import faults_in
from typedahead.studies import Study
from typedahead.texts import at_of
from typedahead.things import same, tupled
from typedahead.trials import tried

FILLINGS = (" 0 ", ' "" ', " no ", "")
# Faults of what is wanting: there's nothing that could be put otherwise.
GAPS = ("name", "told", "part", "sign")


def mends(house, fault):
    """The list of pairs (file, edit) that do away with a fault that is told, and bring none."""
    return mends_in(Study(house), fault)


def mends_in(study, fault):
    """As mends, of a house that is studied; none of a fault that isn't told."""
    told = faults_in(study)
    due = tupled(fault)
    numbers = [number for number, other in enumerate(told) if same(other, due)]
    if not numbers:
        return []
    file = due[0][0]
    return [(file, edit) for edit in tries(study, due) if is_mend(study, told, numbers[0], edit)]


def is_mend(study, told, number, edit):
    """Whether the edit does away with the told fault of that number and brings none."""
    outcome = tried(study, told, told[number][0][0], edit)
    if outcome is None:
        return False
    after, ahead = outcome
    allowed = {fault: True for fault in ahead if fault != ahead[number]}
    return all([fault in allowed for fault in after])


def tries(study, fault):
    """The list of the edits that may mend the fault, each once."""
    (file, number, column), word, what = fault
    text = study.book.texts[file]
    row = study.book.rows[file][number]
    begin = at_of(text, number, 0)
    first, many = stretch(row, column, word)
    told = [(begin + first, many, put) for put in FILLINGS]
    if word == "sign":
        told.append((begin + first, many, " " + what + " "))
    told.append((begin, row.size, ""))
    told.extend([(0, 0, "take " + other + "\n") for other in study.book.files if other != file])
    return list({edit: True for edit in told})


def stretch(row, column, word):
    """The pair of the column from which on, and of how many signs, the fault at a column is."""
    if word == "start":
        return 0, row.size
    if word == "extra":
        return column, row.size - column
    if word in GAPS:
        return column, 0
    return column, [len(text) for _, text, begin in row.tokens if begin == column][0]
