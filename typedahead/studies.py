"""A house as it is read and reckoned, anew or from an older one."""

from typedahead.books import Book
from typedahead.looks import Look
from typedahead.rings import Ties
from typedahead.things import tupled


class Study:
    """A house that is read and reckoned; of an older one of the same files all is kept that is alike.

    whole is the house, a tuple, book the house as read; ringed has its pieces in rings as keys.
    told has by the pair (file, NAME) of each piece what stands behind a NAME that stands for it,
    looks by (file, row) each let and def row as looked at; reckoned tells how many of these were
    looked at anew.
    """

    def __init__(self, house, older=None):
        self.whole = tupled(house)
        self.book = Book(self.whole, None if older is None else older.book)
        self.told = {}
        self.looks = {}
        self.reckoned = 0
        ties = Ties(self.book)
        self.ringed = ties.ringed
        for file, name in self.ringed:
            self.tell(file, name, None)
        for file, name in ties.turn:
            if (file, name) not in self.ringed:
                self.look_at(file, self.book.made[file][name], older)
                self.tell(file, name, self.looks[file, self.book.made[file][name]].parts[0][1])
        for file in self.book.files:
            for number in range(len(self.book.rows[file])):
                self.look_at(file, number, older)

    def tell(self, file, name, kind):
        """Keeps what stands behind the NAMEs that stand for that piece of that kind."""
        row = self.book.maker(file, name)
        params = tuple([told for _, told in row.params]) if row.word == "def" else None
        self.told[file, name] = (row.word, params, kind)

    def look_at(self, file, number, older):
        """Looks at a row, if it's a let or def row and that isn't done."""
        row = self.book.rows[file][number]
        if row.part is None or (file, number) in self.looks:
            return
        meanings = self.book.meanings[file][number]
        behind = {at: self.stands_behind(row, meaning) for at, meaning in zip(row.named, meanings)}
        was = self.book.kept[file][number]
        if was is not None and older.looks[file, was].behind == behind:
            self.looks[file, number] = older.looks[file, was]
        else:
            self.looks[file, number] = Look(row, behind)
            self.reckoned += 1

    def stands_behind(self, row, meaning):
        """What stands behind a NAME in that row's part that has the meaning."""
        if meaning is None:
            return None
        return self.told[meaning] if isinstance(meaning, tuple) else ("param", None, row.params[meaning][1])
