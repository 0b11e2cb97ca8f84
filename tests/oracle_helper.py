"""Points [15] to [19] once more, told in another way: a helper that keeps nothing but the houses
behind its makes, and reckons each answer from these, by other oracles or by the program's plain functions."""

import oracle
import oracle_faults
from typedahead.layout import laid_text
from typedahead.names import is_house
from typedahead.texts import is_text


class Refused(Exception):
    """A refusal: the error's name and its fields."""


def begins(text, other):
    """How many signs, or rows, both begin with alike."""
    return max(at for at in range(min(len(text), len(other)) + 1) if text[:at] == other[:at])


def between(text, other):
    at = begins(text, other)
    end = begins(text[at:][::-1], other[at:][::-1])
    return (at, len(text) - at - end, other[at:len(other) - end])


def carried(edit, other):
    """The edit behind the other one, None where it can't be carried."""
    at, cut, put = edit
    if at + cut <= other[0]:
        return edit
    return (at + len(other[2]) - other[1], cut, put) if at >= other[0] + other[1] else None


def view(house, file, number):
    """What stands behind each NAME in a row's part, None of a row that is no let or def."""
    row = oracle.row_in(house, file, number)
    first = oracle.tree(row)
    if first[0] not in ("let", "def"):
        return None
    told = []
    for part in oracle.all_in(first[-1]):
        if part[0] in ("name", "call"):
            there = oracle.meaning(house, file, number, oracle.word(house, file, number, part[1]))
            if there is not None and there[0] == "param":
                told.append(("param", oracle.named_kind(house, file, number, "name", there)))
            elif there is not None:
                at, made = oracle.part_of(house, *there[1:])
                params = [n and oracle.word(house, there[1], at, n) for _, n in made[2]] if made[0] == "def" else None
                told.append((made[0], params, oracle.piece_kind(house, *there[1:])))
            else:
                told.append(None)
    return told


def work(before, after):
    """The pair of the last make, the houses ahead of it (None at make 0) and behind it."""
    read = reckoned = 0
    for file, text in after:
        rows = text.split("\n")
        old = [] if before is None else dict(before)[file].split("\n")
        ahead = begins(rows, old)
        behind = begins(rows[ahead:][::-1], old[ahead:][::-1])
        for number in range(len(rows)):
            now = view(after, file, number)
            if ahead <= number < len(rows) - behind:
                read += 1
                reckoned += now is not None
            else:
                was = number if number < ahead else number + len(old) - len(rows)
                reckoned += now != view(before, file, was)
    return read, reckoned


class Oracle:
    def __init__(self, house):
        assert is_house(house)
        self.houses = [house]
        self.deeds = [None]
        self.marked = []
        self.marks_told = 0
        self.asks = []
        self.asks_told = 0

    def now(self):
        return dict(self.houses[-1])

    def go(self, deed, house):
        """deed is (editor, "deed"), or (editor, "undo" or "redo", the make taken back)."""
        for mark in self.marked:
            at, cut, put = between(self.now()[mark[2]], dict(house)[mark[2]])
            if mark[3] > at:
                mark[3] = mark[3] + len(put) - cut if mark[3] >= at + cut else at
        self.houses.append(house)
        self.deeds.append(deed)
        return len(self.houses) - 1

    def with_text(self, file, text):
        return tuple((other, text if other == file else told) for other, told in self.houses[-1])

    def in_file(self, file):
        if file not in self.now():
            raise Refused("NoFile", file)
        return self.now()[file]

    def edit(self, editor, file, edit):
        text = self.in_file(file)
        at, cut, put = edit
        if at < 0 or cut < 0 or at + cut > len(text):
            raise Refused("NoEdit", edit)
        after = text[:at] + put + text[at + cut:]
        if not is_text(after):
            raise Refused("TooLong")
        return self.go((editor, "deed"), self.with_text(file, after))

    def lay(self, editor, file):
        return self.go((editor, "deed"), self.with_text(file, laid_text(self.in_file(file))))

    def lead(self, editor, place, name):
        return self.told(editor, oracle_faults.led(self.houses[-1], place, name))

    def move(self, editor, file, row, goal):
        return self.told(editor, oracle_faults.moved(self.houses[-1], file, row, goal))

    def told(self, editor, outcome):
        if outcome[0] == "TooLong":
            raise Refused("TooLong")
        if outcome[0] == "NoPiece":
            raise Refused("NoPiece", *outcome[1])
        if outcome[0] != "house":
            raise Refused(*outcome)
        return self.go((editor, "deed"), outcome[1])

    def mend(self, editor, fault, number):
        told = oracle_faults.mends(self.houses[-1], fault) if fault in oracle_faults.faults(self.houses[-1]) else []
        if number not in range(len(told)):
            raise Refused("NoMend", number)
        return self.edit(editor, *told[number])

    def stacks(self, editor):
        """The makes to be taken back and to be done again, from all deeds of the editor."""
        back, again = [], []
        for make, deed in enumerate(self.deeds):
            if deed is not None and deed[0] == editor:
                if deed[1] == "deed":
                    back.append(make)
                    again = []
                elif deed[1] == "undo":
                    back.remove(deed[2])
                    again.append(make)
                else:
                    again.remove(deed[2])
                    back.append(make)
        return back, again

    def can(self, editor):
        return tuple(len(makes) for makes in self.stacks(editor))

    def take_back(self, editor, word):
        makes = self.stacks(editor)[0 if word == "undo" else 1]
        if not makes:
            raise Refused("NoDeed")
        edits = {}
        for file, _ in self.houses[0]:
            edit = self.back_edit(file, makes[-1])
            if edit is not None:
                edits[file] = edit
        texts = {file: self.now()[file][:at] + put + self.now()[file][at + cut:] for file, (at, cut, put) in edits.items()}
        if not all(is_text(text) for text in texts.values()):
            raise Refused("TooLong")
        house = tuple((file, texts.get(file, text)) for file, text in self.houses[-1])
        return self.go((editor, word, makes[-1]), house)

    def back_edit(self, file, make):
        texts = [dict(house)[file] for house in self.houses]
        if texts[make - 1] == texts[make]:
            return None
        later = [number for number in range(make + 1, len(texts)) if texts[number - 1] != texts[number]]
        pairs = [True]
        while pairs:
            pairs = [at for at in range(len(later) - 1)
                     if self.deeds[later[at + 1]][1] != "deed" and self.deeds[later[at + 1]][2] == later[at]]
            if pairs:
                del later[pairs[0]:pairs[0] + 2]
        at, cut, put = between(texts[make - 1], texts[make])
        edit = (at, len(put), texts[make - 1][at:at + cut])
        for number in later:
            edit = carried(edit, between(texts[number - 1], texts[number]))
            if edit is None:
                raise Refused("Tangled", number)
        return edit

    def undo(self, editor):
        return self.take_back(editor, "undo")

    def redo(self, editor):
        return self.take_back(editor, "redo")

    def mark(self, editor, file, at):
        if at not in range(len(self.in_file(file)) + 1):
            raise Refused("NoSpot", at)
        self.marked.append([self.marks_told, editor, file, at])
        self.marks_told += 1
        return self.marks_told - 1

    def drop(self, number):
        if number not in [mark[0] for mark in self.marked]:
            raise Refused("NoMark", number)
        self.marked = [mark for mark in self.marked if mark[0] != number]

    def marks(self, editor):
        return [tuple(mark) for mark in self.marked if editor in (None, mark[1])]

    def ask(self, editor, word, place, begin):
        if word in ("uses", "offers") and self.reckon(word, place, begin) is None:
            raise Refused("NoName", place)
        self.asks.append((self.asks_told, editor, len(self.houses) - 1, self.reckon(word, place, begin)))
        self.asks_told += 1
        return self.asks_told - 1

    def reckon(self, word, place, begin):
        house = self.houses[-1]
        made = [each[:2] for each in oracle.made(house)]
        if word == "faults":
            return list(oracle_faults.faults(house))
        if word == "values":
            lets = [each for each in made if oracle.part_of(house, *each)[1][0] == "let"]
            return [(*each, oracle.value(house, *each, [0])) for each in lets]
        if word == "kinds":
            return [self.piece(house, *each) for each in made]
        if word == "offers":
            return oracle_faults.offers(house, place, begin)
        due = oracle.goal(house, place)
        return None if due in (None, "none") else [at for at in oracle.places(house) if oracle.goal(house, at) == due]

    def piece(self, house, file, name):
        number, first = oracle.part_of(house, file, name)
        params = None
        if first[0] == "def":
            params = tuple(None if n is None else oracle.word(house, file, number, n) for _, n in first[2])
        return (file, name, params, oracle.piece_kind(house, file, name))

    def answer(self):
        return self.asks.pop(0) if self.asks else None

    def withdraw(self, number):
        if number not in [each[0] for each in self.asks]:
            raise Refused("NoAsk", number)
        self.asks = [each for each in self.asks if each[0] != number]

    def works(self):
        """The pair of each make."""
        return [work(before, after) for before, after in zip([None, *self.houses], self.houses)]
