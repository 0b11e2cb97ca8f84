"""A helper that reads along while two editors write a house's texts."""

from typedahead.edits import between, done, is_edit, shifted
from typedahead.errors import BadHouse, NoAsk, NoDeed, NoEdit, NoFile, NoMake, NoMark, NoMend, NoSpot
from typedahead.faults import faults_in
from typedahead.history import taken_back
from typedahead.kinds import piece_kinds_in
from typedahead.layout import laid_text
from typedahead.leading import led
from typedahead.mends import mends_in
from typedahead.moving import moved
from typedahead.names import is_house, target_in, uses_in
from typedahead.offers import gap, offers_in
from typedahead.studies import Study
from typedahead.things import is_count, tupled
from typedahead.trials import with_text
from typedahead.values import values_in

EDITORS = (0, 1)


def told_of(study, word, place, begin):
    """What an ask of that word is told of the house that is studied."""
    if word == "faults":
        return faults_in(study)
    if word == "kinds":
        return piece_kinds_in(study)
    if word == "values":
        return values_in(study.book, study.ringed)
    return uses_in(study.book, place) if word == "uses" else offers_in(study, place, begin)


def in_file(house, file):
    """The file's text; refused with NoFile."""
    for other, told in house:
        if other == file:
            return told
    raise NoFile(file)


class Helper:
    """A house that two editors, 0 and 1, write, by deeds of which each one makes its next make.

    Kept of each make are the house behind it, its work, and, of an undo or redo, the make that it
    took back; of each editor the makes that may be taken back and those that may be done again,
    the next one last.
    """

    def __init__(self, house):
        first = tupled(house)
        if not is_house(first):
            raise BadHouse(house)
        self._study = Study(first)
        self._houses = [first]
        self._works = [(self._study.book.read_rows(), self._study.reckoned)]
        self._took = {}
        self._deeds = {editor: [] for editor in EDITORS}
        self._backs = {editor: [] for editor in EDITORS}
        self._marks = []
        self._waiting = []
        self._next_mark = 0
        self._next_ask = 0

    def __len__(self):
        return len(self._houses)

    def __eq__(self, other):
        return isinstance(other, Helper) and self._houses == other._houses

    def twin(self):
        """A helper of its own that tells the same and goes on alike."""
        other = Helper(self._houses[0])
        other._study = self._study
        other._houses = list(self._houses)
        other._works = list(self._works)
        other._took = dict(self._took)
        other._deeds = {editor: list(self._deeds[editor]) for editor in EDITORS}
        other._backs = {editor: list(self._backs[editor]) for editor in EDITORS}
        other._marks = list(self._marks)
        other._waiting = list(self._waiting)
        other._next_mark = self._next_mark
        other._next_ask = self._next_ask
        return other

    # Deeds.

    def edit(self, editor, file, edit):
        """Does the edit of the file's text; refused with NoFile, NoEdit, TooLong."""
        text = self.text(file)
        given = tupled(edit)
        if not is_edit(text, given):
            raise NoEdit(edit)
        return self._deed(editor, with_text(self._houses[-1], file, done(text, given)))

    def lay(self, editor, file):
        """Lays the file's text out; refused with NoFile."""
        return self._deed(editor, with_text(self._houses[-1], file, laid_text(self.text(file))))

    def lead(self, editor, place, name):
        """Leads a NAME over; refused as led."""
        return self._deed(editor, led(self._houses[-1], place, name))

    def move(self, editor, file, row, goal):
        """Moves a piece to another file; refused as moved."""
        return self._deed(editor, moved(self._houses[-1], file, row, goal))

    def mend(self, editor, fault, *, number=0):
        """Does the mend of that number of the fault; refused with NoMend."""
        told = self.mends(fault)
        if not 0 <= number < len(told):
            raise NoMend(number)
        file, edit = told[number]
        return self.edit(editor, file, edit)

    def undo(self, editor):
        """Takes the editor's last deed back; refused with NoDeed, Tangled, TooLong."""
        return self._take_back(self._deeds[editor], self._backs[editor])

    def redo(self, editor):
        """Does again what the editor took back last; refused with NoDeed, Tangled, TooLong."""
        return self._take_back(self._backs[editor], self._deeds[editor])

    def can(self, editor):
        """The pair of how many deeds of the editor may be taken back, and be done again."""
        return len(self._deeds[editor]), len(self._backs[editor])

    def _deed(self, editor, house):
        """Makes the house the present one, by a deed that isn't undo nor redo."""
        number = self._go_on(house)
        self._deeds[editor].append(number)
        self._backs[editor].clear()
        return number

    def _take_back(self, makes, others):
        """Takes the last one of these makes back, by a make that goes to the other ones."""
        if not makes:
            raise NoDeed()
        number = self._go_on(taken_back(self._houses, self._took, makes[-1]))
        self._took[number] = makes.pop()
        others.append(number)
        return number

    def _go_on(self, house):
        """Makes the house the present one; told is the make's number."""
        edits = {file: between(text, in_file(house, file)) for file, text in self._houses[-1]}
        self._marks = [(number, editor, file, shifted(at, edits[file])) for number, editor, file, at in self._marks]
        self._study = Study(house, self._study)
        self._houses.append(house)
        self._works.append((self._study.book.read_rows(), self._study.reckoned))
        return self.make()

    # Asks.

    def make(self):
        """The number of the present make."""
        return len(self._houses) - 1

    def house(self):
        """The present house."""
        return self._houses[-1]

    def text(self, file):
        """The file's present text; refused with NoFile."""
        return in_file(self._houses[-1], file)

    def text_at(self, make, file):
        """The file's text behind that make; refused with NoMake, NoFile."""
        if not 0 <= make < len(self._houses):
            raise NoMake(make)
        return in_file(self._houses[make], file)

    def faults(self):
        """The faults of the present house."""
        return told_of(self._study, "faults", None, "")

    def kinds(self):
        """The kinds of the present house's pieces."""
        return told_of(self._study, "kinds", None, "")

    def worths(self):
        """The values of the present house's let pieces."""
        return told_of(self._study, "values", None, "")

    def target(self, place):
        """What the name token at the place stands for; refused with NoName."""
        return target_in(self._study.book, place)

    def uses(self, place):
        """The places of all name tokens of the same target; refused with NoName."""
        return told_of(self._study, "uses", place, "")

    def mends(self, fault):
        """The mends of the fault."""
        return mends_in(self._study, fault)

    def offers(self, place, *, begin=""):
        """The words that fit at the place and begin so; refused with NoName."""
        return told_of(self._study, "offers", place, begin)

    def work(self):
        """The pair of how many rows were read, and reckoned, by the last make."""
        return self._works[-1]

    def total(self):
        """The pair of how many rows were read, and reckoned, by all makes."""
        return sum([rows for rows, _ in self._works]), sum([rows for _, rows in self._works])

    # Marks.

    def mark(self, editor, file, at):
        """Sets a mark at a place of the file's text; told is its number; refused with NoFile, NoSpot."""
        text = self.text(file)
        if not is_count(at) or at > len(text):
            raise NoSpot(at)
        self._marks.append((self._next_mark, editor, file, at))
        self._next_mark += 1
        return self._next_mark - 1

    def marks(self, *, editor=None):
        """The list of the marks of the editor, of None all: (number, editor, file, at)."""
        return [mark for mark in self._marks if editor is None or mark[1] == editor]

    def drop(self, number):
        """Does away with the mark; refused with NoMark."""
        if number not in [mark[0] for mark in self._marks]:
            raise NoMark(number)
        self._marks = [mark for mark in self._marks if mark[0] != number]

    # Asks that wait.

    def ask(self, editor, word, *, place=None, begin=""):
        """Keeps an ask of the present house; told is its number; refused with NoName."""
        if word == "uses":
            self.uses(place)
        if word == "offers":
            gap(self._study.book, place)
        self._waiting.append((self._next_ask, editor, self.make(), word, tupled(place), begin))
        self._next_ask += 1
        return self._next_ask - 1

    def answer(self):
        """Answers the first ask that waits: (number, editor, make, told); None where none waits."""
        if not self._waiting:
            return None
        number, editor, make, word, place, begin = self._waiting.pop(0)
        study = self._study if make == self.make() else Study(self._houses[make])
        return number, editor, make, told_of(study, word, place, begin)

    def withdraw(self, number):
        """Makes an ask wait no more; refused with NoAsk."""
        if number not in self.waiting():
            raise NoAsk(number)
        self._waiting = [ask for ask in self._waiting if ask[0] != number]

    def waiting(self):
        """The rising list of the numbers of the asks that wait."""
        return [ask[0] for ask in self._waiting]

    def late(self):
        """The list of those among them that were asked behind another make than the present one."""
        return [ask[0] for ask in self._waiting if ask[2] != self.make()]
