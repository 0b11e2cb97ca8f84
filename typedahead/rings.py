"""Which pieces name which, straight or by way of others, and which of them are in a ring."""


def straight(book, file, number):
    """The list of pairs (file, NAME) of the pieces that a row's part names."""
    row = book.row_at(file, number)
    told = [book.stands_for(file, number, row.text(at)) for at in row.named]
    return [there[1:] for there in told if there is not None and there[0] == "piece"]


def reached(bits):
    """The bits of all that each one reaches, from the bits of what it reaches straight."""
    told = list(bits)
    # Behind each middle one all ways are known that lead through it and those ahead of it alone.
    for middle in range(len(told)):
        for at in range(len(told)):
            if told[at] >> middle & 1:
                told[at] |= told[middle]
    return told


class Ties:
    """A book's pieces, as pairs (file, NAME) in order, and the bits of all that each one names."""

    def __init__(self, book):
        self.pairs = [(file, name) for file, name, _ in book.pieces()]
        numbers = {pair: at for at, pair in enumerate(self.pairs)}
        bits = []
        for file, _, row in book.pieces():
            told = 0
            for other in straight(book, file, row):
                told |= 1 << numbers[other]
            bits.append(told)
        self.bits = reached(bits)

    def in_rings(self):
        """The list of the pieces that name themselves, in order."""
        return [pair for at, pair in enumerate(self.pairs) if self.bits[at] >> at & 1]

    def in_turn(self):
        """The list of all pieces, each one behind all that it names and that are in no ring."""
        # It names, by way of such a one, all that this names, and this one besides.
        many = {pair: f"{self.bits[at]:b}".count("1") for at, pair in enumerate(self.pairs)}
        return sorted(self.pairs, key=lambda piece: many[piece])
