"""The faults of a house."""

from typedahead.studies import Study

# In the order in which they're told where several are at one place.
WORDS = (
    "start", "name", "told", "part", "extra", "sign", "odd", "nofile", "twice",
    "unknown", "unclear", "value", "call", "count", "unfit", "ring",
)


def faults(house):
    """The list of the house's faults, tuples (place, word, what), in order."""
    return faults_in(Study(house))


def faults_in(study):
    """As faults, of a house that is studied."""
    files = study.book.files
    order = {word: at for at, word in enumerate(WORDS)}
    found = []
    for at, file in enumerate(files):
        for number in range(len(study.book.rows[file])):
            for column, word, what in row_faults(study, file, number):
                found.append((at, number, column, order[word], what))
    return [((files[at], number, column), WORDS[word], what)
            for at, number, column, word, what in sorted(set(found))]


def row_faults(study, file, number):
    """The faults in a row, in any order, as (column, word, what)."""
    row = study.book.rows[file][number]
    told = row.flaws + own_faults(study, file, number)
    look = study.looks.get((file, number))
    return told if look is None else told + look.flaws + nameless_faults(study.book.scope[file], look)


def own_faults(study, file, number):
    """The faults of the NAME that a row takes or makes."""
    row = study.book.rows[file][number]
    if row.name is None:
        return []
    column = row.column(row.tree[1])
    if row.word == "take":
        return [] if row.name in study.book.taken[file] else [(column, "nofile", "")]
    if study.book.made[file][row.name] != number:
        return [(column, "twice", "")]
    return [(column, "ring", "")] if (file, row.name) in study.ringed else []


def nameless_faults(scope, look):
    """The faults of the NAMEs in a row's part that stand for nothing; scope is its file's."""
    return [(look.row.column(at), "unclear" if look.row.text(at) in scope else "unknown", "")
            for at, there in look.behind.items() if there is None]
