"""Points [18] and [19]: marks, and asks that wait."""

import unittest

from helpers import listed, same
from test_faults import house
from test_helper import state
from typedahead.errors import NoAsk, NoFile, NoMark, NoName, NoSpot
from typedahead.faults import faults
from typedahead.helper import Helper
from typedahead.kinds import piece_kinds
from typedahead.names import uses
from typedahead.offers import offers
from typedahead.values import values

HOUSE = house("let a = b\nlet b = 1", "let c = 2", "")


class Case(unittest.TestCase):
    def setUp(self):
        self.helper = Helper(HOUSE)

    def refused(self, error, field, deed):
        ahead = state(self.helper)
        with self.assertRaises(error) as told:
            deed()
        same(self, getattr(told.exception, field[0]), field[1])
        self.assertEqual(state(self.helper), ahead)


class TestMarks(Case):
    def places(self, *wanted):
        self.assertEqual([at for _, _, _, at in self.helper.marks()], list(wanted))

    def test_numbers_go_on(self):
        same(self, [self.helper.mark(editor, "aa", 3) for editor in (0, 1, 0)], [0, 1, 2])
        self.helper.drop(2)
        self.helper.drop(0)
        same(self, self.helper.mark(at=0, file="bb", editor=1), 3)
        self.helper.drop(number=3)
        same(self, self.helper.mark(0, "cc", 0), 4)
        same(self, self.helper.marks(), [(1, 1, "aa", 3), (4, 0, "cc", 0)])

    def test_of_either_editor_and_of_none(self):
        for editor, file, at in ((0, "aa", 19), (1, "aa", 0), (1, "bb", 9), (0, "cc", 0)):
            self.helper.mark(editor, file, at)
        same(self, self.helper.marks(editor=0), [(0, 0, "aa", 19), (3, 0, "cc", 0)])
        same(self, self.helper.marks(editor=1), [(1, 1, "aa", 0), (2, 1, "bb", 9)])
        same(self, self.helper.marks(), [(0, 0, "aa", 19), (1, 1, "aa", 0), (2, 1, "bb", 9), (3, 0, "cc", 0)])
        same(self, self.helper.marks(editor=None), self.helper.marks())
        with self.assertRaises(TypeError):
            self.helper.marks(0)

    def test_told_list_is_the_askers_own(self):
        self.helper.mark(0, "aa", 1)
        self.helper.marks().clear()
        same(self, self.helper.marks(), [(0, 0, "aa", 1)])

    def test_refused(self):
        self.helper.mark(0, "aa", 1)
        for file in ("zz", ""):
            for at in (0, -1, 99):
                self.refused(NoFile, ("file", file), lambda: self.helper.mark(0, file, at))
        for file, at in (("aa", -1), ("aa", 20), ("aa", 999), ("cc", 1), ("cc", -1), ("bb", 10)):
            self.refused(NoSpot, ("at", at), lambda: self.helper.mark(1, file, at))
        for number in (-1, 1, 60):
            self.refused(NoMark, ("number", number), lambda: self.helper.drop(number))
        self.helper.drop(0)
        self.refused(NoMark, ("number", 0), lambda: self.helper.drop(0))
        same(self, self.helper.mark(0, "aa", 19), 1)

    def test_dropping_makes_no_make(self):
        self.helper.mark(0, "aa", 1)
        self.helper.drop(0)
        same(self, self.helper.make(), 0)

    def test_at_an_edits_place_and_at_the_ends(self):
        for at in (0, 4, 5, 18, 19):
            self.helper.mark(0, "aa", at)
        self.helper.edit(0, "aa", (4, 0, "xy"))
        self.places(0, 4, 7, 20, 21)
        self.helper.edit(1, "aa", (0, 0, "?"))
        self.places(0, 5, 8, 21, 22)
        self.helper.edit(1, "aa", (22, 0, "22"))
        self.places(0, 5, 8, 21, 22)

    def test_within_what_is_cut(self):
        for at in (3, 4, 5, 6, 7, 8):
            self.helper.mark(1, "aa", at)
        self.helper.edit(0, "aa", (4, 3, "x"))
        self.places(3, 4, 4, 4, 5, 6)
        self.helper.undo(0)
        self.places(3, 4, 4, 4, 7, 8)

    def test_by_the_between_of_each_make(self):
        # Of what is put the begin and the end are alike: only the 9 goes for the 1.
        for at in (0, 10, 18, 19):
            self.helper.mark(0, "aa", at)
        self.helper.edit(0, "aa", (0, 19, "let a = b\nlet b = 97"))
        self.places(0, 10, 18, 20)
        self.helper.edit(1, "aa", (0, 20, ""))
        self.places(0, 0, 0, 0)
        self.helper.undo(1)
        self.places(0, 0, 0, 0)

    def test_other_files_stay(self):
        for file in ("aa", "bb", "cc"):
            self.helper.mark(0, file, 0)
            self.helper.mark(0, file, len(dict(HOUSE)[file]))
        self.helper.edit(0, "bb", (0, 0, "xyz"))
        self.places(0, 19, 0, 12, 0, 0)

    def test_carried_along_deeds_of_each_sort(self):
        for file, at in (("aa", 8), ("aa", 15), ("aa", 19), ("bb", 9), ("cc", 0)):
            self.helper.mark(1, file, at)
        self.helper.lead(0, ("aa", 0, 8), "bcd")
        self.assertEqual(self.helper.text("aa"), "let a = bcd\nlet bcd = 1")
        # The text becomes the other one by one edit, from the first NAME's end to the second one's.
        self.places(8, 19, 23, 9, 0)
        self.helper.undo(0)
        self.places(8, 15, 19, 9, 0)
        self.helper.redo(0)
        self.places(8, 19, 23, 9, 0)
        self.helper.move(0, "aa", 1, "cc")
        self.assertEqual(self.helper.text("aa"), "take cc\nlet a = bcd")
        self.assertEqual(self.helper.text("cc"), "let bcd = 1")
        self.places(0, 0, 19, 9, 0)

    def test_behind_the_edit_as_it_is_shifted(self):
        self.helper.mark(0, "aa", 15)
        self.helper.edit(1, "aa", (9, 1, ""))
        self.places(14)
        self.helper.edit(1, "aa", (9, 0, "\n\n"))
        self.places(16)
        self.helper.lay(1, "aa")
        self.places(16)


class TestAsks(Case):
    def test_each_word(self):
        place, hole = ("aa", 0, 8), ("cc", 0, 8)
        self.helper.edit(0, "cc", (0, 0, "let e = "))
        here = self.helper.house()
        asks = (("faults", {}, faults(here)), ("kinds", {}, piece_kinds(here)), ("values", {}, values(here)),
                ("uses", {"place": place}, uses(here, place)), ("offers", {"place": place}, offers(here, place)),
                ("offers", {"place": hole}, offers(here, hole)), ("offers", {"place": hole, "begin": "y"}, ["yes"]))
        for number, (word, more, _) in enumerate(asks):
            same(self, self.helper.ask(number % 2, word, **more), number)
        same(self, self.helper.waiting(), list(range(7)))
        for number, (_, _, wanted) in enumerate(asks):
            same(self, self.helper.answer(), (number, number % 2, 1, wanted))
        same(self, (self.helper.answer(), self.helper.waiting()), (None, []))

    def test_answered_late(self):
        self.helper.edit(0, "cc", (0, 0, "let e = "))
        hole = ("cc", 0, 8)
        wanted = []
        for number, edit in enumerate(((0, 0, "let d = zz\n"), (0, 0, "?"), (0, 1, ""), (0, 11, ""))):
            here = self.helper.house()
            for word, told in (("faults", faults(here)), ("kinds", piece_kinds(here)), ("values", values(here))):
                self.helper.ask(0, word)
                wanted.append((len(wanted), 0, number + 1, told))
            self.helper.ask(1, "offers", place=hole, begin="n")
            wanted.append((len(wanted), 1, number + 1, ["no"]))
            if number in (0, 3):
                place = ("aa", number // 3, 8)
                self.helper.ask(1, "uses", place=place)
                wanted.append((len(wanted), 1, number + 1, uses(here, place)))
            self.helper.edit(number % 2, "aa", edit)
        self.helper.undo(1)
        same(self, self.helper.late(), self.helper.waiting())
        for each in wanted:
            same(self, self.helper.answer(), each)

    def test_place_of_which_there_is_none_any_more(self):
        self.helper.ask(0, "uses", place=["aa", 1, 4])
        self.helper.edit(0, "aa", (0, 19, ""))
        self.refused(NoName, ("place", ("aa", 1, 4)), lambda: self.helper.ask(0, "uses", place=["aa", 1, 4]))
        same(self, self.helper.answer(), (0, 0, 0, [("aa", 0, 8), ("aa", 1, 4)]))

    def test_late_and_waiting(self):
        self.helper.ask(0, "faults")
        self.helper.ask(1, "kinds")
        same(self, (self.helper.waiting(), self.helper.late()), ([0, 1], []))
        self.helper.edit(0, "aa", (0, 0, ""))
        self.helper.ask(1, "values")
        same(self, (self.helper.waiting(), self.helper.late()), ([0, 1, 2], [0, 1]))
        self.helper.answer()
        same(self, (self.helper.waiting(), self.helper.late()), ([1, 2], [1]))
        self.helper.undo(0)
        same(self, (self.helper.waiting(), self.helper.late()), ([1, 2], [1, 2]))
        self.helper.late().clear()
        self.helper.waiting().clear()
        same(self, (self.helper.waiting(), self.helper.late()), ([1, 2], [1, 2]))

    def test_withdraw(self):
        for word in ("faults", "kinds", "values", "faults"):
            self.helper.ask(0, word)
        self.helper.withdraw(1)
        self.helper.withdraw(number=3)
        same(self, self.helper.waiting(), [0, 2])
        for number in (-1, 1, 3, 4, 99):
            self.refused(NoAsk, ("number", number), lambda: self.helper.withdraw(number))
        same(self, self.helper.answer()[0], 0)
        self.refused(NoAsk, ("number", 0), lambda: self.helper.withdraw(0))
        same(self, self.helper.answer(), (2, 0, 0, values(HOUSE)))
        same(self, self.helper.ask(1, "kinds"), 4)

    def test_refused_as_they_are(self):
        self.helper.edit(0, "cc", (0, 0, "let e = zz(1)"))
        for word, place in (("uses", ("aa", 0, 0)), ("uses", ("cc", 0, 8)), ("uses", ("aa", -1, 4)), ("uses", None),
                            ("offers", ("aa", 0, 4)), ("offers", ("cc", 0, 8)), ("offers", ("zz", 0, 8)), ("offers", None)):
            for handed in (place, listed(place)):
                self.refused(NoName, ("place", place), lambda: self.helper.ask(0, word, place=handed))
        same(self, self.helper.ask(0, "faults"), 0)

    def test_arguments_by_their_names(self):
        same(self, self.helper.ask(begin="b", place=["aa", 0, 8], word="offers", editor=1), 0)
        with self.assertRaises(TypeError):
            self.helper.ask(1, "offers", ("aa", 0, 8))
        same(self, self.helper.answer(), (0, 1, 0, ["b"]))

    def test_place_that_is_changed_later(self):
        place = ["aa", 0, 8]
        self.helper.ask(0, "uses", place=place)
        place[2] = 0
        same(self, self.helper.answer()[3], [("aa", 0, 8), ("aa", 1, 4)])

    def test_asks_change_nothing_else(self):
        ahead = state(self.helper)
        self.helper.ask(0, "faults")
        self.helper.ask(0, "uses", place=("aa", 0, 8))
        self.helper.answer()
        self.helper.withdraw(1)
        self.assertEqual(state(self.helper), ahead)

    def test_sixty_of_asks_and_marks(self):
        for number in range(30):
            same(self, (self.helper.mark(0, "aa", number % 20), self.helper.ask(1, "kinds")), (number, number))
        self.helper.edit(0, "aa", (0, 0, "? "))
        same(self, (len(self.helper.marks()), self.helper.late()), (30, list(range(30))))
        for number in range(30):
            same(self, self.helper.answer(), (number, 1, 0, piece_kinds(HOUSE)))


if __name__ == "__main__":
    unittest.main()
