"""What comes of a let or def row's parts by what stands behind the NAMEs in them."""

from typedahead.rows import own_parts

LIST_OF = {"num": "nums", "word": "words", "flag": "flags"}
ITEM_OF = {"nums": "num", "words": "word", "flags": "flag"}
LONE_KINDS = {"number": "num", "word": "word", "held": "flag"}
# Of the operators whose kind doesn't hang on their parts: all but at.
SIGN_KINDS = {"+": "num", "-": "num", "*": "num", "&": "word", "<": "flag", "=": "flag"}


def item_kind(kinds):
    """The first of the kinds that an item of a list may have; None where there is none."""
    for kind in kinds:
        if kind in LIST_OF:
            return kind
    return None


def unfit(kind, wanted):
    """Whether a part of that kind is unfit where that one is wanted, None of nothing."""
    if kind is None or wanted is None:
        return False
    if wanted == "one":
        return kind not in LIST_OF
    return kind not in ITEM_OF if wanted == "many" else kind != wanted


def first_token(part):
    """The number of the leftmost token of a part that isn't a hole."""
    # Only an operator has something ahead of its own token, but where that is a hole.
    while part[0] == "op" and part[2][0] != "hole":
        part = part[2]
    return part[1]


class Look:
    """A let or def row, looked at.

    behind has, by the number of each NAME in its part, what stands behind this: ("param", None,
    kind), ("let", None, kind), ("def", params' kinds, kind), or None. parts are the tuples (part,
    kind, wanted) of its part and all in it, flaws the faults that come of these: (column, word, what).
    """

    def __init__(self, row, behind):
        self.row = row
        self.behind = behind
        self.parts = self.looked(row.part)
        self.flaws = self.named_flaws() + self.unfit_flaws()

    def looked(self, part):
        """The list of tuples (part, kind, wanted) of the part and all in it, a part ahead of its own
        ones; of itself nothing is wanted here."""
        inner = [self.looked(own) for own in own_parts(part)]
        kinds = [told[0][1] for told in inner]
        told = [(part, self.kind(part, kinds), None)]
        for found, wanted in zip(inner, self.wanted(part, kinds)):
            told.append((found[0][0], found[0][1], wanted))
            told.extend(found[1:])
        return told

    def kind(self, part, kinds):
        """The kind of the part whose own parts are of these kinds."""
        word = part[0]
        if word == "hole":
            return None
        if word in ("name", "call"):
            return self.named_kind(part)
        if word == "list":
            return LIST_OF.get(item_kind(kinds))
        if word == "round":
            return kinds[0]
        if word == "if":
            return kinds[2] if kinds[1] is None else kinds[1]
        sort, text, _ = self.row.tokens[part[1]]
        if word == "lone":
            return LONE_KINDS[sort]
        return ITEM_OF.get(kinds[0]) if text == "at" else SIGN_KINDS[text]

    def named_kind(self, part):
        """The kind of a NAME, alone or called."""
        there = self.behind[part[1]]
        return there[2] if there is not None and (there[0] == "def") == (part[0] == "call") else None

    def wanted(self, part, kinds):
        """The list of what the part's own parts, of these kinds, are wanted of; None of nothing."""
        word = part[0]
        if word == "call":
            return self.wanted_params(part)
        if word == "list":
            return [item_kind(kinds) or "one"] * len(kinds)
        if word == "if":
            return ["flag", None, kinds[1]]
        if word != "op":
            return [None] * len(kinds)
        text = self.row.text(part[1])
        if text == "=":
            return [None, kinds[0]]
        if text == "at":
            return ["many", "num"]
        return ["word", "word"] if text == "&" else ["num", "num"]

    def wanted_params(self, part):
        """The list of what a call's parts are wanted of."""
        there = self.behind[part[1]]
        if there is None or there[0] != "def" or len(there[1]) != len(part[2]):
            return [None] * len(part[2])
        return list(there[1])

    def unfit_flaws(self):
        """The faults of unfit parts."""
        return [(self.row.column(first_token(part)), "unfit", (wanted, kind))
                for part, kind, wanted in self.parts if unfit(kind, wanted)]

    def named_flaws(self):
        """The faults of NAMEs that stand for something."""
        told = []
        for part, _, _ in self.parts:
            there = self.behind[part[1]] if part[0] in ("name", "call") else None
            if there is not None:
                told.extend([(self.row.column(part[1]), word, what) for word, what in use_flaws(part, there)])
        return told


def use_flaws(part, there):
    """The faults, pairs (word, what), of a NAME, alone or called, behind which that stands."""
    if part[0] == "name":
        return [("value", "")] if there[0] == "def" else []
    if there[0] != "def":
        return [("call", "")]
    counts = (len(there[1]), len(part[2]))
    return [("count", counts)] if counts[0] != counts[1] else []
