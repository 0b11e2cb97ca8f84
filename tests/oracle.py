"""Points [8] to [10] once more, told in another way, to hold the program against; and houses by chance.

Of the program it uses tokens and tree alone, which have tests of their own.
"""

from functools import lru_cache

from typedahead import tokens as tokens_file
from typedahead import trees
from typedahead.texts import is_text

kept = lru_cache(maxsize=4000)
tokens = kept(tokens_file.tokens)
tree = kept(trees.tree)

ITEM = {"nums": "num", "words": "word", "flags": "flag"}
MANY = {"num": "nums", "word": "words", "flag": "flags"}
TOLD = {"+": "num", "-": "num", "*": "num", "&": "word", "<": "flag", "=": "flag"}


@kept
def rows_in(house):
    """All (file, number, row), in order."""
    return [(file, number, row) for file, text in house for number, row in enumerate(text.split("\n"))]


@kept
def row_in(house, file, number):
    return [row for other, at, row in rows_in(house) if (other, at) == (file, number)][0]


def word(house, file, number, at):
    return tokens(row_in(house, file, number))[at][1]


def all_in(part):
    own = part[2] if part[0] in ("call", "list") else part[2:]
    return [part] + [inner for each in own for inner in all_in(each)]


@kept
def made(house):
    """The list of (file, NAME, row) of all pieces."""
    told = []
    for file, number, row in rows_in(house):
        first = tree(row)
        if first[0] in ("let", "def") and first[1] is not None:
            name = tokens(row)[first[1]][1]
            if not [each for each in told if each[:2] == (file, name)]:
                told.append((file, name, number))
    return told


@kept
def takes(house, file):
    """The other files that the file takes, as a set."""
    others = {other for other, _ in house} - {file}
    found = [(number, tree(row)) for other, number, row in rows_in(house) if other == file]
    return others & {word(house, file, number, told[1]) for number, told in found
                     if told[0] == "take" and told[1] is not None}


@kept
def meaning(house, file, number, name):
    """The target of the NAME in that row's part."""
    first = tree(row_in(house, file, number))
    if first[0] == "def" and name in [word(house, file, number, at) for at, _ in first[2] if at is not None]:
        return ("param", file, number, name)
    if (file, name) in [each[:2] for each in made(house)]:
        return ("piece", file, name)
    makers = [each[0] for each in made(house) if each[1] == name and each[0] in takes(house, file)]
    return ("piece", makers[0], name) if len(makers) == 1 else None


@kept
def goal(house, place):
    """The target of the name token at the place; "none" where there is no such token."""
    file, number, column = place
    if (file, number) not in [each[:2] for each in rows_in(house)]:
        return "none"
    row = row_in(house, file, number)
    found = [(at, text) for at, (sort, text, begin) in enumerate(tokens(row)) if (sort, begin) == ("name", column)]
    if not found:
        return "none"
    (at, name), first = found[0], tree(row)
    if first[0] == "take":
        return ("file", name) if first[1] == at and name in takes(house, file) else None
    if first[0] not in ("let", "def"):
        return None
    if first[1] == at:
        return ("piece", file, name) if (file, name, number) in made(house) else None
    if first[0] == "def" and at in [one for one, _ in first[2]]:
        earlier = [word(house, file, number, one) for one, _ in first[2] if one is not None and one < at]
        return None if name in earlier else ("param", file, number, name)
    parts = [part[1] for part in all_in(first[-1]) if part[0] in ("name", "call")]
    return meaning(house, file, number, name) if at in parts else None


@kept
def places(house):
    """The places of all name tokens, in order."""
    return [(file, number, column) for file, number, row in rows_in(house)
            for sort, _, column in tokens(row) if sort == "name"]


@kept
def part_of(house, file, name):
    """The pair (row's number, tree) of a piece."""
    number = [each[2] for each in made(house) if each[:2] == (file, name)][0]
    return number, tree(row_in(house, file, number))


@kept
def straight(house, file, name):
    """The pieces that a piece's part names."""
    number, first = part_of(house, file, name)
    found = [meaning(house, file, number, word(house, file, number, part[1]))
             for part in all_in(first[-1]) if part[0] in ("name", "call")]
    return {each[1:] for each in found if each is not None and each[0] == "piece"}


@kept
def in_ring(house, file, name):
    """Whether the piece comes upon itself, going from one to the next."""
    seen, waiting = set(), straight(house, file, name)
    while waiting:
        seen |= waiting
        waiting = {other for each in waiting for other in straight(house, *each)} - seen
    return (file, name) in seen


@kept
def piece_kind(house, file, name):
    if in_ring(house, file, name):
        return None
    number, first = part_of(house, file, name)
    return kind(house, file, number, first[-1])


def kind(house, file, number, part):
    """The kind of a row's part."""
    sort = part[0]
    if sort == "hole":
        return None
    text = word(house, file, number, part[1])
    if sort == "lone":
        return "num" if text[0] in "0123456789" else "word" if text[0] == '"' else "flag"
    if sort in ("name", "call"):
        return named_kind(house, file, number, sort, meaning(house, file, number, text))
    own = part[2] if sort == "list" else part[2:]
    kinds = [kind(house, file, number, each) for each in own]
    if sort == "list":
        return ([MANY[each] for each in kinds if each in MANY] + [None])[0]
    if sort == "round":
        return kinds[0]
    if sort == "if":
        return kinds[1] or kinds[2]
    return ITEM.get(kinds[0]) if text == "at" else TOLD[text]


def named_kind(house, file, number, sort, told):
    if told is None:
        return None
    if told[0] == "param":
        pairs = tree(row_in(house, file, number))[2]
        at = [at for one, at in pairs if one is not None and word(house, file, number, one) == told[3]][0]
        return None if sort == "call" or at is None else word(house, file, number, at)
    makes = part_of(house, told[1], told[2])[1][0]
    return piece_kind(house, told[1], told[2]) if makes == {"name": "let", "call": "def"}[sort] else None


class Unknown(Exception):
    """There is no value."""


def thing_kind(thing):
    if type(thing) is list:
        return MANY[thing_kind(thing[0])]
    return {int: "num", str: "word", bool: "flag"}[type(thing)]


def sure(holds):
    if not holds:
        raise Unknown()


def value(house, file, name, count):
    """The value of a let piece; count[0] is how many parts were looked at."""
    try:
        return piece_value(house, file, name, [], count)
    except Unknown:
        return None


def piece_value(house, file, name, things, count):
    sure(not in_ring(house, file, name))
    number, first = part_of(house, file, name)
    pairs = first[2] if first[0] == "def" else ()
    sure(len(pairs) == len(things))
    params = {}
    for (one, at), thing in reversed(list(zip(pairs, things))):
        sure(at is None or thing_kind(thing) == word(house, file, number, at))
        if one is not None:
            params[word(house, file, number, one)] = thing
    return reckon(house, (file, number, params), first[-1], count)


def reckon(house, here, part, count):
    count[0] += 1
    sure(count[0] <= 200 and part[0] != "hole")
    sort, text = part[0], word(house, here[0], here[1], part[1])
    if sort == "lone":
        return int(text) if text.isdigit() else text[1:-1] if text[0] == '"' else text == "yes"
    if sort in ("name", "call"):
        return reckon_named(house, here, part, text, count)
    if sort == "if":
        asked = reckon(house, here, part[2], count)
        sure(type(asked) is bool)
        return reckon(house, here, part[3] if asked else part[4], count)
    things = [reckon(house, here, own, count) for own in (part[2] if sort == "list" else part[2:])]
    if sort == "round":
        return things[0]
    kinds = [thing_kind(thing) for thing in things]
    if sort == "list":
        sure(kinds[0] in MANY and set(kinds) == {kinds[0]})
        return things
    return operate(text, things, kinds)


def reckon_named(house, here, part, text, count):
    told = meaning(house, here[0], here[1], text)
    things = [reckon(house, here, own, count) for own in part[2]] if part[0] == "call" else []
    sure(told is not None)
    if told[0] == "param":
        sure(part[0] == "name")
        return here[2][text]
    sure(part_of(house, told[1], told[2])[1][0] == {"name": "let", "call": "def"}[part[0]])
    return piece_value(house, told[1], told[2], things, count)


def operate(sign, things, kinds):
    left, right = things
    if sign == "at":
        sure(kinds[0] in ITEM and kinds[1] == "num" and right in range(len(left)))
        return left[right]
    if sign == "=":
        sure(kinds[0] == kinds[1])
        return left == right
    sure(kinds == (["word"] * 2 if sign == "&" else ["num"] * 2))
    if sign == "<":
        return left < right
    if sign == "&":
        sure(len(left + right) < 201)
        return left + right
    told = {"+": left + right, "-": left - right, "*": left * right}[sign]
    sure(abs(told) <= 1000000)
    return told


NAMES = "abcdefgh"
FILES = ("main", "lib", "util", "more", "last", "top")
SAMPLES = {
    "num": ("0", "1", "2", "999999"), "word": ('""', '"x"', '"a b"'), "flag": ("yes", "no"),
    "nums": ("[1]", "[0, 1, 2]"), "words": ('["x"]', '["", "y"]'), "flags": ("[yes]", "[no, yes]"),
}
FORMS = {
    "num": ("N + N", "N - N", "N * N", "(N)", "NS at N", "if F then N else N", "f(N, F)"),
    "word": ("W & W", "(W)", "WS at N", "if F then W else W", "g(W)"),
    "flag": ("N < N", "N = N", "W = W", "(F)", "FS at N", "if F then F else F", "NS = NS"),
    "nums": ("[N]", "[N, N]", "(NS)", "if F then NS else NS"),
    "words": ("[W]", "[W, W]", "h(W, WS)"),
    "flags": ("[F]", "[F, F, F]", "(FS)"),
}
SHORT = {"N": "num", "W": "word", "F": "flag", "NS": "nums", "WS": "words", "FS": "flags"}


def chance_part(chance, sort, depth):
    """A part's text, mostly of that kind."""
    if chance.random() < 0.03:
        sort = chance.choice(list(SAMPLES))
    if chance.random() < 0.02:
        return chance.choice(("", ")", "[", "[]", "f()", "; 1", "[[1]]", "zz", "(1", "f(1)", "1 + ", "g(yes)"))
    if depth == 0 or chance.random() < 0.3:
        return chance.choice(SAMPLES[sort] + tuple(NAMES)[:chance.randrange(9)])
    form = chance.choice(FORMS[sort]).replace("(", "( ").replace(")", " )").replace("[", "[ ").replace(",", " ,")
    form = form.replace("]", " ]")
    return " ".join(chance_part(chance, SHORT[each], depth - 1) if each in SHORT else each for each in form.split(" "))


def chance_row(chance, files):
    """A row's text of at most 60 signs."""
    while True:
        sort, name = chance.choice(list(SAMPLES)), chance.choice(NAMES)
        form = chance.randrange(20)
        pairs = ", ".join(chance.choice(NAMES) + " " + chance.choice(list(SAMPLES) + ["num"] * 6)
                          for _ in range(chance.choice((1, 1, 2, 3))))
        row = "let {} = {}".format(name, chance_part(chance, sort, chance.randrange(3)))
        if form < 3:
            row = "take " + chance.choice(files + FILES[:1])
        elif form < 8:
            row = "def {}({}) = {}".format(name, pairs, chance_part(chance, sort, 1))
        elif form == 8:
            row = chance.choice(("", "  ", "let", "let = 1", "def f", "take", "x a", "def (a num) = a", "take main lib",
                                 "let a = 1 b", "def f(num) = b", "def g(a, b num) = a", "def h(a num, a word) = a"))
        if len(row) <= 60:
            return row


def chance_house(chance):
    """A house by chance; many of its pieces have a kind and a value."""
    files = FILES[:chance.choice((1, 2, 2, 3, 4, 6))]
    texts = ["\n".join(chance_row(chance, files) for _ in range(chance.randrange(1, 7))) for _ in files]
    if not all(is_text(text) for text in texts):
        raise ValueError("no house")
    return tuple(zip(files, texts))
