"""A house as it is read: its files' rows, what these make and take, what names stand for."""

from typedahead.edits import alike
from typedahead.rows import Row
from typedahead.texts import rows_of
from typedahead.things import is_count


def made_in(rows):
    """For each NAME of which a file's rows make a piece the number of its row, in order."""
    made = {}
    for number, row in enumerate(rows):
        if row.word in ("let", "def") and row.name is not None and row.name not in made:
            made[row.name] = number
    return made


def kept_rows(rows, older):
    """For each of the rows the number of the one among the older ones that is kept for it, None where it's read."""
    ahead = alike(rows, older)
    behind = alike(rows[ahead:][::-1], older[ahead:][::-1])
    more = len(rows) - len(older)
    last = [number - more for number in range(len(rows) - behind, len(rows))]
    return list(range(ahead)) + [None] * (len(rows) - ahead - behind) + last


class Book:
    """A house that is read; of an older one of the same files the rows are kept that are alike.

    files are its NAMEs; by them rows, made, taken and scope tell of each file: its rows as read,
    the row of each NAME that it makes a piece of, the other files that it takes, each once, and
    which file makes each NAME that its parts may name, None where two or more taken ones do.
    meanings has of each row what the NAMEs in its part stand for: the number of a param, the pair
    (file, NAME) of a piece, or None. texts has each file's text, kept for each of its rows the
    number that this had in the older one, None where it was read anew.
    """

    def __init__(self, house, older=None):
        self.files = [file for file, _ in house]
        self.texts = {file: text for file, text in house}
        self.rows = {}
        self.kept = {}
        for file in self.files:
            self.read(file, older)
        self.made = {file: made_in(self.rows[file]) for file in self.files}
        self.taken = {file: self.taken_by(file) for file in self.files}
        self.scope = {file: self.scope_of(file) for file in self.files}
        self.meanings = {file: self.meanings_of(file, older) for file in self.files}

    def read(self, file, older):
        """Reads those rows of the file that aren't kept."""
        texts = rows_of(self.texts[file])
        if older is None:
            kept = [None] * len(texts)
        else:
            kept = kept_rows(texts, rows_of(older.texts[file]))
        self.kept[file] = kept
        self.rows[file] = [Row(row) if was is None else older.rows[file][was] for row, was in zip(texts, kept)]

    def read_rows(self):
        """How many rows were read, not kept."""
        return sum([self.kept[file].count(None) for file in self.files])

    def taken_by(self, file):
        """The list of the other files that the file takes, in their order in the house."""
        names = [row.name for row in self.rows[file] if row.word == "take"]
        return [other for other in self.files if other != file and other in names]

    def scope_of(self, file):
        """For each NAME that the file or one that it takes makes the file whose piece the NAME stands for there."""
        told = {}
        for other in self.taken[file]:
            for name in self.made[other]:
                told[name] = None if name in told else other
        for name in self.made[file]:
            told[name] = file
        return told

    def meanings_of(self, file, older):
        """For each of the file's rows the list of what the NAMEs in its part stand for."""
        # A kept row's NAMEs stand for what they did, where all NAMEs do that in its file.
        alike_scope = older is not None and older.scope[file] == self.scope[file]
        return [older.meanings[file][was] if alike_scope and was is not None
                else [self.meaning(file, row, row.text(at)) for at in row.named]
                for row, was in zip(self.rows[file], self.kept[file])]

    def meaning(self, file, row, name):
        """What the NAME stands for in the part of that row of the file."""
        at = row.param_at(name)
        if at is not None:
            return at
        maker = self.scope[file].get(name)
        return None if maker is None else (maker, name)

    def row_at(self, file, number):
        """The row of that number, None where there is none."""
        # A number below 0 is none, while an index below 0 counts from the end.
        if file not in self.files or not is_count(number) or number >= len(self.rows[file]):
            return None
        return self.rows[file][number]

    def pieces(self):
        """The list of (file, NAME, row) of all pieces, in order."""
        return [(file, name, number) for file in self.files for name, number in self.made[file].items()]

    def maker(self, file, name):
        """The row that makes that piece."""
        return self.rows[file][self.made[file][name]]

    def makes(self, file, number):
        """Whether that row makes a piece."""
        return number in list(self.made[file].values())

    def stands_for(self, file, number, name):
        """The target of the NAME in that row's part; None where it stands for nothing."""
        told = self.meaning(file, self.rows[file][number], name)
        if told is None:
            return None
        return ("piece", *told) if isinstance(told, tuple) else ("param", file, number, name)

    def meant(self, file, number, part):
        """The target of a row's name part that is a param or a let piece, or of a call that is
        a def piece; None of others."""
        told = self.stands_for(file, number, self.rows[file][number].text(part[1]))
        if told is None:
            return None
        word = "param" if told[0] == "param" else self.maker(told[1], told[2]).word
        return told if (word == "def") == (part[0] == "call") else None

    def own_target(self, file, number):
        """The target of the NAME that a row takes or makes."""
        row = self.rows[file][number]
        if row.word == "take":
            return ("file", row.name) if row.name in self.taken[file] else None
        return ("piece", file, row.name) if self.made[file][row.name] == number else None

    def known_targets(self, file, number):
        """The targets of a row's name tokens, as far as they were read, by these tokens' numbers."""
        row = self.rows[file][number]
        known = {at: self.stands_for(file, number, row.text(at)) for at in row.named}
        if row.name is not None:
            known[row.tree[1]] = self.own_target(file, number)
        for at, (name, _) in enumerate(row.params):
            # A param of a NAME that was told ahead of it stands for nothing.
            if name is not None and row.param_at(name) == at:
                known[row.tree[2][at][0]] = ("param", file, number, name)
        return known

    def row_targets(self, file, number):
        """The list of pairs (place, target) of a row's name tokens, in order."""
        known = self.known_targets(file, number)
        found = self.rows[file][number].tokens
        return [((file, number, token[2]), known.get(at)) for at, token in enumerate(found) if token[0] == "name"]

    def targets(self):
        """The list of pairs (place, target) of all name tokens, in order."""
        told = []
        for file in self.files:
            for number in range(len(self.rows[file])):
                told.extend(self.row_targets(file, number))
        return told
