"""Which pieces name which, straight or by way of others, and which of them are in a ring."""


def straight(book, file, number):
    """The list of pairs (file, NAME) of the pieces that a row's part names."""
    return [meaning for meaning in book.meanings[file][number] if isinstance(meaning, tuple)]


class Ties:
    """A book's pieces, as pairs (file, NAME), and which of them name which.

    links has of each one the pieces that it names, turn all of them, each one behind all that it
    names, but for those that name it as well; ringed has those in rings as keys. The pieces are
    gone through from each one to those that it names: numbers tells in which order they are come
    upon, path has those of which it isn't known yet whether they name one that is ahead of them
    there, lows the least number of such a one.
    """

    def __init__(self, book):
        self.pairs = [(file, name) for file, name, _ in book.pieces()]
        self.links = {(file, name): straight(book, file, row) for file, name, row in book.pieces()}
        self.numbers = {}
        self.lows = {}
        self.path = []
        self.turn = []
        self.ringed = {}
        for pair in self.pairs:
            if pair not in self.numbers:
                self.visit(pair)

    def visit(self, pair):
        """Goes to a piece that wasn't come upon, and on from it."""
        number = len(self.numbers)
        low = number
        self.numbers[pair] = number
        self.path.append(pair)
        for other in self.links[pair]:
            if other not in self.numbers:
                self.visit(other)
            low = min(low, self.lows.get(other, self.numbers[other]))
        self.lows[pair] = low
        if low == number:
            self.leave(pair)

    def leave(self, pair):
        """Takes the piece and all behind it off the path: these name one another, and no other on it."""
        at = self.path.index(pair)
        group = self.path[at:]
        del self.path[at:]
        self.turn.extend(group)
        for other in group:
            # Whoever names it later isn't to take it for one on the path.
            self.lows[other] = len(self.pairs)
            if len(group) > 1 or other in self.links[other]:
                self.ringed[other] = True

    def in_rings(self):
        """The list of the pieces that name themselves, in order."""
        return [pair for pair in self.pairs if pair in self.ringed]
