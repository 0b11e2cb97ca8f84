"""Pieces moved to another file."""

from typedahead.books import Book
from typedahead.errors import Clash, NoFile, NoPiece, TooLong
from typedahead.names import is_house
from typedahead.rings import straight
from typedahead.texts import rows_of, text_of


def moved(house, file, row, goal):
    """The house with that row, which makes a piece, in another file, goal; refused with NoPiece,
    NoFile, TooLong, Clash."""
    book = Book(house)
    if book.row_at(file, row) is None or not book.makes(file, row):
        raise NoPiece(file, row)
    if goal == file or goal not in book.files:
        raise NoFile(goal)
    move = Move(book, file, row, goal)
    after = move.new_house()
    if not is_house(after):
        raise TooLong()
    now = {place: told for place, told in Book(after, book).targets()}
    for place, told in book.targets():
        if now[move.new_place(place)] != move.new_target(told):
            raise Clash(place)
    return after


class Move:
    """A row that goes from its file to another one, goal, of a house that is read.

    tops has by each file those that it is to take besides, the first one on top.
    """

    def __init__(self, book, file, row, goal):
        self.book = book
        self.file = file
        self.row = row
        self.goal = goal
        self.piece = (file, book.rows[file][row].name)
        self.tops = {other: self.needs(other) for other in book.files}

    def needs(self, file):
        """The list of the files that the file is to take besides."""
        if file == self.goal:
            named = [pair[0] for pair in straight(self.book, self.file, self.row) if pair != self.piece]
            return [other for other in self.book.files
                    if other in named and other != file and other not in self.book.taken[file]]
        return [] if self.goal in self.book.taken[file] or not self.names_piece(file) else [self.goal]

    def names_piece(self, file):
        """Whether a row of the file that stays names the piece that goes."""
        numbers = [number for number in range(len(self.book.rows[file])) if (file, number) != (self.file, self.row)]
        return any([self.piece in straight(self.book, file, number) for number in numbers])

    def stays(self, file):
        """The list of the rows of the file that stay; of goal none, if it has one without signs alone."""
        rows = rows_of(self.book.texts[file])
        if file == self.file:
            del rows[self.row]
        return [] if file == self.goal and rows == [""] else rows

    def new_house(self):
        """The house behind."""
        told = []
        for file in self.book.files:
            rows = ["take " + other for other in self.tops[file]] + self.stays(file)
            if file == self.goal:
                rows.append(rows_of(self.book.texts[self.file])[self.row])
            # Of no rows comes the bare text, which has one row without signs.
            told.append((file, text_of(rows)))
        return tuple(told)

    def new_place(self, place):
        """Where a token's place is behind."""
        file, number, column = place
        if (file, number) == (self.file, self.row):
            return (self.goal, len(self.tops[self.goal]) + len(self.stays(self.goal)), column)
        ahead = 1 if file == self.file and number > self.row else 0
        return (file, number + len(self.tops[file]) - ahead, column)

    def new_target(self, told):
        """The target that is due behind for one ahead."""
        if told is None or told[0] == "file":
            return told
        if told[0] == "param":
            return ("param", *self.new_place((told[1], told[2], 0))[:2], told[3])
        return ("piece", self.goal, told[2]) if told[1:] == self.piece else told
