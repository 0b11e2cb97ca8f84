"""Points [11] to [14] once more, told in another way, to hold the program against.

Of the program it uses tokens and trees alone, and is_text, which have tests of their own.
"""

from functools import lru_cache

import oracle
from oracle import tokens, tree, word
from typedahead import trees
from typedahead.texts import is_text
from typedahead.words import is_name

ORDER = "start name told part extra sign odd nofile twice unknown unclear value call count unfit ring".split()
ONE, MANY = ("num", "word", "flag"), ("nums", "words", "flags")
stops = lru_cache(maxsize=4000)(trees.stops)


def column_of(row, n):
    return tokens(row)[n][2] if n < len(tokens(row)) else len(row)


def first_token(part):
    """The leftmost token of a part; None of a hole alone."""
    if part[0] == "hole":
        return None
    if part[0] == "op":
        left = first_token(part[2])
        return part[1] if left is None else left
    return part[1]


def wants(house, file, number, part):
    """The pairs (own part, what it's wanted of)."""
    own = part[2] if part[0] in ("call", "list") else part[2:]
    kinds = [oracle.kind(house, file, number, each) for each in own]
    text = word(house, file, number, part[1]) if own else ""
    if part[0] == "call":
        told = oracle.meaning(house, file, number, text)
        if told is None or told[0] == "param":
            return []
        at, first = oracle.part_of(house, told[1], told[2])
        if first[0] == "let" or len(first[2]) != len(own):
            return []
        return [(each, None if n is None else word(house, told[1], at, n)) for each, (_, n) in zip(own, first[2])]
    if part[0] == "list":
        firsts = [kind for kind in kinds if kind in ONE]
        return [(each, firsts[0] if firsts else "one") for each in own]
    if part[0] == "if":
        return [(own[0], "flag"), (own[2], kinds[1])]
    if part[0] != "op":
        return []
    if text == "=":
        return [(own[1], kinds[0])]
    if text == "at":
        return [(own[0], "many"), (own[1], "num")]
    return [(each, "word" if text == "&" else "num") for each in own]


def is_unfit(kind, wanted):
    if kind is None or wanted is None:
        return False
    return kind not in {"one": ONE, "many": MANY}.get(wanted, (wanted,))


def name_faults(house, file, number, part):
    name = word(house, file, number, part[1])
    told = oracle.meaning(house, file, number, name)
    called = part[0] == "call"
    if told is None:
        makers = [each for each in oracle.takes(house, file) if (each, name) in [one[:2] for one in oracle.made(house)]]
        return [("unclear" if len(makers) > 1 else "unknown", "")]
    if told[0] == "param":
        return [("call", "")] if called else []
    first = oracle.part_of(house, told[1], told[2])[1]
    if first[0] == "let":
        return [("call", "")] if called else []
    if not called:
        return [("value", "")]
    return [("count", (len(first[2]), len(part[2])))] if len(first[2]) != len(part[2]) else []


def row_faults(house, file, number, row):
    """The faults in a row, as (token's number, word, what)."""
    found = [(n, told, text) for told, n, text in stops(row)]
    found += [(n, "odd", "") for n, token in enumerate(tokens(row)) if token[0] == "odd"]
    first = tree(row)
    own = first[1] if first[0] in ("take", "let", "def") else None
    if own is not None:
        name = word(house, file, number, own)
        if first[0] == "take":
            if name not in {other for other, _ in house} - {file}:
                found.append((own, "nofile", ""))
        elif (file, name, number) not in oracle.made(house):
            found.append((own, "twice", ""))
        elif oracle.in_ring(house, file, name):
            found.append((own, "ring", ""))
    if first[0] == "def":
        seen = set()
        for n, _ in first[2]:
            if n is not None and word(house, file, number, n) in seen:
                found.append((n, "twice", ""))
            seen.add(None if n is None else word(house, file, number, n))
    if first[0] in ("let", "def"):
        for part in oracle.all_in(first[-1]):
            if part[0] in ("name", "call"):
                found += [(part[1], told, what) for told, what in name_faults(house, file, number, part)]
            for each, wanted in wants(house, file, number, part):
                kind = oracle.kind(house, file, number, each)
                if is_unfit(kind, wanted):
                    found.append((first_token(each), "unfit", (wanted, kind)))
    return found


@lru_cache(maxsize=4000)
def faults(house):
    files = [file for file, _ in house]
    found = {((file, number, column_of(row, n)), told, what) for file, number, row in oracle.rows_in(house)
             for n, told, what in row_faults(house, file, number, row)}
    return sorted(found, key=lambda each: (files.index(each[0][0]), each[0][1:], ORDER.index(each[1]), each[2]))


def edited(house, file, row, column, cut, put):
    """The house behind an edit, and a function by which places are shifted; None where it's too long."""
    text = dict(house)[file]
    at = sum(len(each) + 1 for each in text.split("\n")[:row]) + column
    after = text[:at] + put + text[at + cut:]
    if not is_text(after):
        return None

    def shift(place):
        if place[0] != file:
            return place
        was = sum(len(each) + 1 for each in text.split("\n")[:place[1]]) + place[2]
        now = was + len(put) - cut if was >= at + cut and (was > at or cut == 0) else min(was, at)
        return (file, after[:now].count("\n"), len(after[:now].split("\n")[-1]))

    return tuple((other, after if other == file else told) for other, told in house), shift


def mends(house, fault):
    """The pairs (file, edit) of the mends."""
    (file, number, column), what, text = fault
    row = oracle.row_in(house, file, number)
    begin = sum(len(each) + 1 for each in dict(house)[file].split("\n")[:number])
    if what in ("name", "told", "part", "sign"):
        start, size = column, 0
    elif what == "start":
        start, size = 0, len(row)
    elif what == "extra":
        start, size = column, len(row) - column
    else:
        start, size = column, [len(each[1]) for each in tokens(row) if each[2] == column][0]
    puts = [" 0 ", ' "" ', " no ", ""] + ([" " + text + " "] if what == "sign" else [])
    tried = [(number, start, size, put) for put in puts] + [(number, 0, len(row), "")]
    tried += [(0, 0, 0, "take " + other + "\n") for other, _ in house if other != file]
    told = []
    for row_number, at, cut, put in tried:
        pair = (file, ((begin if row_number == number else 0) + at, cut, put))
        if put.startswith("take "):
            pair = (file, (0, 0, put))
        behind = edited(house, file, row_number, at, cut, put)
        if pair in told or behind is None:
            continue
        after, shift = behind
        allowed = {(shift(each[0]), each[1], each[2]) for each in faults(house)} - {(shift(fault[0]), what, text)}
        if set(faults(after)) <= allowed:
            told.append(pair)
    return told


def offers(house, place, begin=""):
    """The words offered at a place, None where it's refused."""
    file, number, column = place
    if (file, number) not in [each[:2] for each in oracle.rows_in(house)]:
        return None
    row = oracle.row_in(house, file, number)
    first = tree(row)
    parts = oracle.all_in(first[-1]) if first[0] in ("let", "def") else []
    sizes = [len(tokens(row)[part[1]][1]) for part in parts if part[0] == "name" and tokens(row)[part[1]][2] == column]
    sizes += [0 for each, n, _ in stops(row) if each == "part" and column_of(row, n) == column]
    if not sizes:
        return None
    words = {"yes", "no"}
    names = {name for _, name, _ in oracle.made(house)} | {each[1] for each in tokens(row) if each[0] == "name"}
    for name in names:
        told = oracle.meaning(house, file, number, name)
        if told is not None and (told[0] == "param" or oracle.part_of(house, *told[1:])[1][0] == "let"):
            words.add(name)
    fit = []
    for each in words:
        behind = edited(house, file, number, column, sizes[0], " " + each + " ")
        if each.startswith(begin) and behind is not None:
            after, shift = behind
            allowed = {(shift(one[0]), one[1], one[2]) for one in faults(house)}
            if not [one for one in faults(after) if one[0] == (file, number, column + 1) or one not in allowed]:
                fit.append(each)
    return sorted(fit)


def led(house, place, name):
    """The pair ("house", house) or (an error's name, its field)."""
    if not is_name(name):
        return "BadName", name
    due = oracle.goal(house, place)
    if due is None or due == "none" or due[0] == "file":
        return "NoName", place
    texts, where = [], {}
    for file, text in house:
        rows = []
        for number, row in enumerate(text.split("\n")):
            told, done = "", 0
            for sort, each, column in tokens(row):
                told, done = told + row[done:column], column + len(each)
                if sort == "name":
                    where[file, number, column] = (file, number, len(told))
                same = sort == "name" and oracle.goal(house, (file, number, column)) == due
                told += name if same else each
            rows.append(told + row[done:])
        texts.append((file, "\n".join(rows)))
    after = tuple(texts)
    if not all(is_text(text) for _, text in after):
        return "TooLong", None
    for old in oracle.places(house):
        wanted = oracle.goal(house, old)
        wanted = due[:-1] + (name,) if wanted == due else wanted
        if oracle.goal(after, where[old]) != wanted:
            return "Clash", old
    return "house", after


def moved(house, file, row, goal):
    """As led, of a piece moved."""
    made = [each for each in oracle.made(house) if (each[0], each[2]) == (file, row)]
    if not made:
        return "NoPiece", (file, row)
    if goal == file or goal not in dict(house):
        return "NoFile", goal
    piece = made[0][:2]
    texts = {other: text.split("\n") for other, text in house}
    rows = {other: [(other, number) for number in range(len(texts[other]))] for other in texts}
    named = oracle.straight(house, *piece) - {piece}
    lines = {("row", *each): texts[each[0]][each[1]] for other in rows for each in rows[other]}
    rows = {other: [("row", *each) for each in rows[other]] for other in rows}
    rows[file].remove(("row", file, row))
    users = []
    for other in rows:
        for _, _, number in rows[other]:
            first = tree(texts[other][number])
            parts = oracle.all_in(first[-1]) if first[0] in ("let", "def") else []
            for part in parts:
                if part[0] in ("name", "call"):
                    if oracle.meaning(house, other, number, word(house, other, number, part[1])) == ("piece", *piece):
                        users.append(other)
    if texts[goal] == [""]:
        rows[goal] = []
    rows[goal] = rows[goal] + [("row", file, row)]
    tops = [other for other, _ in house if other != goal and other in {one for one, _ in named}]
    rows[goal] = [("new", other) for other in tops if other not in oracle.takes(house, goal)] + rows[goal]
    for other in rows:
        if other != goal and other in users and goal not in oracle.takes(house, other):
            rows[other] = [("new", goal)] + rows[other]
    after = tuple((other, "\n".join("take " + each[1] if each[0] == "new" else lines[each] for each in rows[other]))
                  for other, _ in house)
    if not all(is_text(text) for _, text in after):
        return "TooLong", None
    now = {each[1:]: (other, at) for other in rows for at, each in enumerate(rows[other]) if each[0] == "row"}
    for old in oracle.places(house):
        wanted = oracle.goal(house, old)
        if wanted == ("piece", *piece):
            wanted = ("piece", goal, piece[1])
        elif wanted is not None and wanted[0] == "param":
            wanted = ("param", *now[wanted[1:3]], wanted[3])
        if oracle.goal(after, (*now[old[:2]], old[2])) != wanted:
            return "Clash", old
    return "house", after
