"""Point [17]: deeds taken back, and done again."""

import random
import unittest
from string import ascii_letters

from helpers import same
from test_faults import house
from test_helper import state
from typedahead.edits import carried, done
from typedahead.errors import NoDeed, Tangled, TooLong
from typedahead.helper import Helper

TEXT = "let a = 12 + 34\nlet b = a"


class Case(unittest.TestCase):
    def begin(self, *texts):
        self.helper = Helper(house(*(texts or (TEXT,))))

    def edits(self, *edits):
        """Does edits (editor, at, cut, put) of the first file."""
        for editor, *edit in edits:
            self.helper.edit(editor, "aa", tuple(edit))

    def text(self, wanted, file="aa"):
        self.assertEqual(self.helper.text(file), wanted)

    def can(self, *wanted):
        same(self, (self.helper.can(0), self.helper.can(1)), wanted)

    def refused(self, error, deed, number=None):
        ahead = state(self.helper)
        with self.assertRaises(error) as told:
            deed()
        if number is not None:
            same(self, told.exception.number, number)
        self.assertEqual(state(self.helper), ahead)


class TestAlone(Case):
    def test_undo_and_redo(self):
        for editor in (0, 1):
            self.begin()
            self.edits((editor, 8, 2, "x"), (editor, 0, 0, "? "))
            same(self, self.helper.undo(editor), 3)
            self.text("let a = x + 34\nlet b = a")
            same(self, self.helper.undo(editor=editor), 4)
            self.text(TEXT)
            self.refused(NoDeed, lambda: self.helper.undo(editor))
            same(self, self.helper.redo(editor), 5)
            self.text("let a = x + 34\nlet b = a")
            same(self, self.helper.redo(editor=editor), 6)
            self.text("? let a = x + 34\nlet b = a")
            self.refused(NoDeed, lambda: self.helper.redo(editor))

    def test_none_at_first(self):
        self.begin()
        for deed in (self.helper.undo, self.helper.redo):
            for editor in (0, 1):
                self.refused(NoDeed, lambda: deed(editor))

    def test_can_at_each_step(self):
        self.begin()
        self.can((0, 0), (0, 0))
        for deed, wanted in ((lambda: self.edits((0, 0, 0, "x")), (1, 0)), (lambda: self.edits((0, 0, 0, "y")), (2, 0)),
                             (lambda: self.helper.undo(0), (1, 1)), (lambda: self.helper.undo(0), (0, 2)),
                             (lambda: self.helper.redo(0), (1, 1)), (lambda: self.helper.undo(0), (0, 2)),
                             (lambda: self.helper.redo(0), (1, 1)), (lambda: self.helper.redo(0), (2, 0)),
                             (lambda: self.helper.undo(0), (1, 1)), (lambda: self.edits((0, 0, 0, "z")), (2, 0))):
            deed()
            self.can(wanted, (0, 0))
        same(self, self.helper.can(editor=0), (2, 0))

    def test_no_redo_once_something_else_was_done(self):
        for deed in (lambda each: each.edit(0, "aa", (0, 0, "")), lambda each: each.lay(0, "aa"),
                     lambda each: each.lead(0, ("aa", 0, 4), "x"), lambda each: each.move(0, "aa", 1, "bb"),
                     lambda each: each.mend(0, each.faults()[0])):
            self.begin(TEXT + "\n?", "")
            self.edits((0, 0, 0, "x"))
            self.helper.undo(0)
            deed(self.helper)
            self.can((1, 0), (0, 0))
            self.refused(NoDeed, lambda: self.helper.redo(0))

    def test_redo_still_behind_asks_marks_and_what_was_refused(self):
        self.begin()
        self.edits((0, 0, 0, "x"))
        self.helper.undo(0)
        self.helper.mark(0, "aa", 0)
        self.helper.ask(0, "faults")
        self.helper.answer()
        self.refused(TooLong, lambda: self.edits((0, 0, 0, "x" * 60)))
        self.refused(NoDeed, lambda: self.helper.undo(0))
        same(self, self.helper.redo(0), 3)
        self.text("x" + TEXT)

    def test_deed_by_which_nothing_changed(self):
        self.begin()
        self.edits((0, 0, 0, "x"), (0, 3, 0, ""))
        self.can((2, 0), (0, 0))
        same(self, self.helper.undo(0), 3)
        self.text("x" + TEXT)
        same(self, self.helper.undo(0), 4)
        self.text(TEXT)
        self.helper.redo(0)
        self.helper.redo(0)
        self.text("x" + TEXT)


class TestByTurns(Case):
    def test_each_editor_takes_back_its_own(self):
        self.begin()
        self.edits((0, 8, 2, "77"), (1, 13, 2, "88"), (0, 20, 1, "c"))
        self.text("let a = 77 + 88\nlet c = a")
        self.helper.undo(1)
        self.text("let a = 77 + 34\nlet c = a")
        self.can((2, 0), (0, 1))
        self.helper.undo(0)
        self.text("let a = 77 + 34\nlet b = a")
        self.helper.undo(0)
        self.text(TEXT)
        self.refused(NoDeed, lambda: self.helper.undo(0))
        self.helper.redo(1)
        self.text("let a = 12 + 88\nlet b = a")
        self.helper.redo(0)
        self.helper.redo(0)
        self.text("let a = 77 + 88\nlet c = a")

    def test_other_ones_deeds_leave_what_can_be_done_again(self):
        self.begin()
        self.edits((0, 8, 2, "77"))
        self.helper.undo(0)
        self.edits((1, 0, 0, "\n"))
        self.can((0, 1), (1, 0))
        self.helper.redo(0)
        self.text("\nlet a = 77 + 34\nlet b = a")

    def test_behind_edits_ahead_and_behind(self):
        self.begin()
        self.edits((0, 8, 2, "777"), (1, 0, 0, "xy"), (1, 16, 1, ""), (1, 0, 1, ""))
        self.text("ylet a = 777 + 4\nlet b = a")
        self.helper.undo(0)
        self.text("ylet a = 12 + 4\nlet b = a")

    def test_right_beside(self):
        # Put in right ahead of what came, and right behind it: both are elsewhere.
        self.begin()
        self.edits((0, 8, 0, "abc"), (1, 8, 0, "x"), (1, 12, 0, "y"))
        self.text("let a = xabcy12 + 34\nlet b = a")
        self.helper.undo(0)
        self.text("let a = xy12 + 34\nlet b = a")
        self.helper.redo(0)
        self.text("let a = xabcy12 + 34\nlet b = a")

    def test_what_was_cut_comes_ahead_of_what_was_put_there(self):
        self.begin()
        self.edits((0, 8, 2, ""), (1, 8, 0, "x"))
        self.helper.undo(0)
        self.text("let a = 12x + 34\nlet b = a")

    def test_within(self):
        for edit in ((1, 9, 0, "x"), (1, 9, 1, ""), (1, 8, 1, ""), (1, 10, 1, ""), (1, 7, 2, ""), (1, 10, 4, "z"), (1, 7, 9, "")):
            self.begin()
            self.edits((0, 8, 0, "abc"), edit)
            self.refused(Tangled, lambda: self.helper.undo(0), 2)
            self.helper.undo(1)
            self.helper.undo(0)
            self.text(TEXT)

    def test_own_later_deeds_are_taken_back_ahead(self):
        self.begin()
        self.edits((0, 8, 0, "abc"), (0, 9, 1, "xyz"))
        self.helper.undo(0)
        self.helper.undo(0)
        self.text(TEXT)

    def test_tangled_with_the_first_such_make(self):
        self.begin()
        self.edits((0, 8, 0, "abc"), (1, 0, 0, "x"), (1, 12, 0, ""), (1, 10, 1, "z"), (1, 10, 1, "y"))
        self.refused(Tangled, lambda: self.helper.undo(0), 4)
        self.can((1, 0), (4, 0))

    def test_redo_may_be_tangled(self):
        self.begin()
        self.edits((0, 8, 2, "77"))
        self.helper.undo(0)
        self.edits((1, 9, 1, "5"))
        self.refused(Tangled, lambda: self.helper.redo(0), 3)
        self.can((0, 1), (1, 0))
        self.helper.undo(1)
        same(self, self.helper.redo(0), 5)
        self.text("let a = 77 + 34\nlet b = a")

    def test_undo_of_what_redo_did_over_later_edits(self):
        self.begin()
        self.edits((0, 8, 2, "777"))
        self.helper.undo(0)
        self.helper.redo(0)
        self.edits((1, 0, 0, "\n"))
        self.helper.undo(0)
        self.text("\n" + TEXT)
        self.edits((1, 0, 1, ""))
        self.helper.redo(0)
        self.text("let a = 777 + 34\nlet b = a")

    def test_between_the_texts_counts_not_the_edit_that_was_handed_in(self):
        # What both texts have alike wasn't touched: so the other one's edit within that is elsewhere.
        self.begin()
        self.edits((0, 0, 15, "let a = 12 + 99"), (1, 8, 1, "7"))
        self.helper.undo(0)
        self.text("let a = 72 + 34\nlet b = a")


class TestLeftOut(Case):
    def test_pair(self):
        self.begin()
        self.edits((0, 8, 0, "abc"), (1, 9, 1, ""))
        self.refused(Tangled, lambda: self.helper.undo(0), 2)
        self.helper.undo(1)
        self.helper.undo(0)
        self.text(TEXT)

    def test_pair_in_a_pair(self):
        self.begin()
        self.edits((0, 8, 0, "abcd"), (1, 9, 1, ""), (1, 9, 1, ""))
        self.helper.undo(1)
        self.refused(Tangled, lambda: self.helper.undo(0), 2)
        self.helper.undo(1)
        self.helper.undo(0)
        self.text(TEXT)

    def test_pairs_of_both_editors(self):
        self.begin()
        self.edits((0, 8, 0, "abcd"), (0, 0, 0, "x"), (1, 10, 1, ""))
        self.helper.undo(1)
        self.helper.undo(0)
        self.can((1, 1), (0, 1))
        self.helper.undo(0)
        self.text(TEXT)

    def test_undo_and_redo_are_a_pair_as_well(self):
        self.begin()
        self.edits((1, 8, 0, "abc"), (0, 9, 1, "x"))
        self.helper.undo(0)
        self.helper.redo(0)
        # Left out are the deed and its undo, the first pair: what stays is the redo.
        self.refused(Tangled, lambda: self.helper.undo(1), 4)
        self.helper.undo(0)
        self.helper.undo(1)
        self.text(TEXT)

    def test_from_the_first_one_on(self):
        # Makes 2 and 5, 3 and 4, 5 and 6 are pairs: 3 and 4 go, then 2 and 5; what stays is 6.
        self.begin()
        self.edits((1, 8, 0, "abcd"), (0, 9, 1, "x"), (1, 0, 0, "\n"))
        self.helper.undo(1)
        self.helper.undo(0)
        self.helper.redo(0)
        self.refused(Tangled, lambda: self.helper.undo(1), 6)

    def test_not_where_something_else_is_left_between(self):
        self.begin()
        self.edits((0, 8, 0, "abcd"), (1, 9, 1, ""), (1, 0, 0, "x"))
        self.helper.undo(1)
        self.edits((0, 0, 0, "\n"))
        self.helper.undo(1)
        self.text("\nlet a = abcd12 + 34\nlet b = a")
        self.helper.undo(0)
        # Makes 3 and 4 go; of 2 and 6, of 5 and 7 each one stands between the two others.
        self.text("let a = abcd12 + 34\nlet b = a")
        self.refused(Tangled, lambda: self.helper.undo(0), 2)

    def test_an_edit_between_that_is_not_taken_back(self):
        self.begin()
        self.edits((0, 8, 0, "abcd"), (1, 9, 1, ""), (0, 0, 0, "\n"), (0, 0, 1, ""))
        self.helper.undo(1)
        self.helper.undo(0)
        # Makes 3 and 4 are alike to a deed and its undo, but they are none.
        self.refused(Tangled, lambda: self.helper.undo(0), 4)
        self.begin()
        self.edits((1, 8, 0, "abcd"), (0, 9, 1, ""), (1, 0, 0, "\n"))
        self.helper.undo(0)
        self.helper.undo(1)
        self.text("let a = abcd12 + 34\nlet b = a")
        self.refused(Tangled, lambda: self.helper.undo(1), 2)

    def test_pair_behind_one_that_stays(self):
        self.begin()
        self.edits((1, 8, 0, "abcd"), (0, 9, 1, ""), (0, 0, 0, "\n"))
        self.helper.undo(0)
        self.helper.redo(0)
        self.refused(Tangled, lambda: self.helper.undo(1), 2)
        self.helper.undo(0)
        self.helper.undo(0)
        self.helper.undo(1)
        self.text(TEXT)

    def test_makes_of_other_files_are_not_between(self):
        self.begin(TEXT, "x", "")
        self.edits((0, 8, 0, "abcd"), (1, 9, 1, ""))
        self.helper.edit(0, "bb", (0, 0, "y"))
        self.helper.undo(1)
        self.helper.edit(1, "cc", (0, 0, "z"))
        self.helper.undo(0)
        self.text("x", "bb")
        self.helper.undo(0)
        self.text(TEXT)
        self.text("z", "cc")


class TestSeveralFiles(Case):
    def begin(self):
        self.helper = Helper(house("take bb\nlet a = b", "let b = 1\nlet c = b", "take bb\nlet d = b + b"))

    def test_lead(self):
        self.begin()
        ahead = self.helper.house()
        self.helper.lead(0, ("aa", 1, 8), "other")
        behind = self.helper.house()
        self.helper.edit(1, "aa", (0, 0, "\n"))
        self.helper.edit(1, "cc", (7, 0, " "))
        self.helper.undo(0)
        same(self, self.helper.house(), (("aa", "\n" + ahead[0][1]), ahead[1], ("cc", "take bb \nlet d = b + b")))
        self.helper.undo(1)
        self.helper.undo(1)
        self.helper.redo(0)
        same(self, self.helper.house(), behind)

    def test_move(self):
        self.begin()
        ahead = self.helper.house()
        self.helper.move(0, "bb", 0, "cc")
        behind = self.helper.house()
        self.assertEqual([text == dict(ahead)[file] for file, text in behind], [False, False, False])
        self.helper.undo(0)
        same(self, self.helper.house(), ahead)
        self.helper.redo(0)
        same(self, self.helper.house(), behind)
        self.helper.edit(1, "bb", (0, 0, "\n"))
        self.helper.undo(0)
        same(self, self.helper.house(), (ahead[0], ("bb", "\n" + ahead[1][1]), ahead[2]))

    def test_lay_and_mend(self):
        self.helper = Helper(house("let  a=z\nlet b=1", "let z = 1"))
        ahead = self.helper.house()
        self.helper.lay(0, "aa")
        fault = self.helper.faults()[0]
        self.helper.mend(1, fault, number=len(self.helper.mends(fault)) - 1)
        same(self, self.helper.text("aa"), "take bb\nlet a = z\nlet b = 1")
        self.helper.undo(0)
        same(self, self.helper.text("aa"), "take bb\nlet  a=z\nlet b=1")
        self.helper.undo(1)
        same(self, self.helper.house(), ahead)

    def test_tangled_of_the_first_such_file(self):
        self.begin()
        self.helper.lead(0, ("aa", 1, 8), "other")
        self.helper.edit(1, "cc", (17, 1, "x"))
        self.helper.edit(1, "bb", (5, 1, "x"))
        self.helper.edit(1, "bb", (5, 1, "y"))
        self.refused(Tangled, lambda: self.helper.undo(0), 3)
        self.helper.undo(1)
        self.refused(Tangled, lambda: self.helper.undo(0), 3)
        self.helper.undo(1)
        self.refused(Tangled, lambda: self.helper.undo(0), 2)
        self.helper.undo(1)
        self.helper.undo(0)
        same(self, self.helper.house(), Helper(house("take bb\nlet a = b", "let b = 1\nlet c = b", "take bb\nlet d = b + b")).house())

    def test_files_that_the_deed_did_not_change(self):
        # Nothing is taken back there: so nothing stands in the way, wherever the other one cuts.
        for cut in ((0, 20, ""), (16, 4, ""), (17, 2, ""), (18, 1, "")):
            self.begin()
            self.helper.edit(0, "bb", (8, 1, "2"))
            self.helper.edit(1, "aa", (17, 0, "xyz"))
            self.helper.edit(1, "aa", cut)
            here = self.helper.text("aa")
            same(self, self.helper.undo(0), 4)
            self.text(here)
            self.text("let b = 1\nlet c = b", "bb")
            same(self, self.helper.redo(0), 5)
            self.text(here)
            self.text("let b = 2\nlet c = b", "bb")

    def test_too_long(self):
        self.helper = Helper(house("x" * 60 + "\nlet b = 1"))
        self.edits((0, 30, 10, ""), (1, 0, 0, "y" * 10))
        self.refused(TooLong, lambda: self.helper.undo(0))
        self.can((1, 0), (1, 0))
        self.edits((1, 59, 1, ""), (1, 0, 1, ""))
        self.refused(TooLong, lambda: self.helper.undo(0))
        self.helper = Helper(house("\n" * 23))
        self.edits((0, 0, 3, ""), (1, 20, 0, "\n"))
        self.refused(TooLong, lambda: self.helper.undo(0))
        self.edits((1, 3, 1, ""))
        self.helper.undo(0)
        self.text("\n" * 23)

    def test_tangled_ahead_of_too_long(self):
        self.helper = Helper(house("take bb\nlet a = longname" + " " * 44, "let longname = 1"))
        self.helper.lead(0, ("aa", 1, 8), "x")
        self.helper.edit(1, "aa", (8, 0, " " * 7))
        self.refused(TooLong, lambda: self.helper.undo(0))
        self.helper.edit(1, "bb", (4, 1, "y"))
        self.refused(Tangled, lambda: self.helper.undo(0), 3)

    def test_redo_too_long(self):
        self.helper = Helper(house("x" * 50))
        self.edits((0, 0, 0, "y" * 10))
        self.helper.undo(0)
        self.edits((1, 50, 0, "z"))
        self.refused(TooLong, lambda: self.helper.redo(0))
        self.can((0, 1), (1, 0))


class TestByChance(Case):
    def test_what_would_be_there_if_the_deed_had_never_been_done(self):
        chance = random.Random(31)
        met = [0, 0]
        for _ in range(400):
            # Each sign stands there once: so between tells the very edits.
            text = "".join(chance.sample(ascii_letters, 30))
            first, second = [(chance.randrange(27), chance.randrange(4), chance.choice(puts)) for puts in ("12", "34")]
            helper = Helper((("f", text),))
            try:
                after = carried(second, first)
            except Tangled:
                met[0] += 1
                continue
            met[1] += 1
            helper.edit(0, "f", first)
            helper.edit(1, "f", after)
            both = helper.text("f")
            helper.undo(0)
            self.assertEqual(helper.text("f"), done(text, second))
            helper.undo(1)
            self.assertEqual(helper.text("f"), text)
            helper.redo(1)
            self.assertEqual(helper.text("f"), done(text, second))
            helper.redo(0)
            self.assertEqual(sorted(helper.text("f")), sorted(both))
            helper.undo(1)
            self.assertEqual(helper.text("f"), done(text, first))
        self.assertGreater(min(met), 20)


if __name__ == "__main__":
    unittest.main()
