"""Point [15]: a helper's deeds and asks."""

import unittest

from helpers import THINGS, listed, same, told_anew
from test_faults import house
from typedahead import helper as helper_file
from typedahead.edits import done
from typedahead.errors import (
    BadHouse, BadName, Clash, NoEdit, NoFile, NoMake, NoMend, NoName, NoPiece, Tangled, TooLong,
)
from typedahead.faults import faults
from typedahead.helper import Helper
from typedahead.kinds import piece_kinds
from typedahead.layout import laid_text
from typedahead.leading import led
from typedahead.mends import mends
from typedahead.moving import moved
from typedahead.names import target, uses
from typedahead.offers import offers
from typedahead.values import values

HOUSE = house("take bb\nlet a=b + 1\ndef f(n num) = n + a\nlet c = f( ", 'let b = 2\nlet d = "x"\n', "")
METHODS = """edit lay lead move mend undo redo can make house text faults kinds worths target uses mends offers text_at
twin work total mark marks drop ask answer withdraw waiting late""".split()


def state(helper):
    """All that a helper tells of itself."""
    here = [helper.make(), helper.house(), len(helper), helper.work(), helper.total(), helper.can(0), helper.can(1)]
    texts = [helper.text_at(make, file) for make in range(len(helper)) for file, _ in helper.house()]
    return [*here, texts, helper.marks(), helper.waiting(), helper.late(), helper.faults(), helper.kinds(), helper.worths()]


class TestBegun(unittest.TestCase):
    def test_defined_in_its_file_with_all_methods_in_its_body(self):
        self.assertEqual(Helper.__module__, helper_file.__name__)
        for name in METHODS + ["__init__", "__len__", "__eq__"]:
            self.assertIn(name, vars(Helper))

    def test_begun(self):
        helper = Helper(HOUSE)
        same(self, (helper.make(), helper.house(), len(helper)), (0, HOUSE, 1))
        same(self, (helper.can(0), helper.can(1)), ((0, 0), (0, 0)))
        same(self, (helper.marks(), helper.waiting(), helper.late(), helper.answer()), ([], [], [], None))

    def test_lists_for_tuples(self):
        for handed in (listed(HOUSE), [tuple(pair) for pair in HOUSE], tuple(list(pair) for pair in HOUSE)):
            same(self, Helper(handed).house(), HOUSE)
            same(self, Helper(house=handed).house(), HOUSE)

    def test_what_is_handed_in_is_not_kept(self):
        handed = listed(HOUSE)
        helper = Helper(handed)
        handed[0][1] = "x"
        del handed[1:]
        same(self, helper.house(), HOUSE)
        same(self, helper.faults(), faults(HOUSE))

    def test_bad_house(self):
        bad = [(("a", ""), ("a", "")), (("let", ""),), (("a", "x" * 61),), (("a", "\n" * 24),), (("a", "", ""),), ("a", ""),
               tuple((name, "") for name in "abcdefg"), [["a", 1]], [["a"]], (("a", None),)]
        for thing in THINGS + bad:
            if not (isinstance(thing, (list, tuple)) and len(thing) == 1 and thing[0] == ("a", "b")):
                with self.assertRaises(BadHouse) as told:
                    Helper(thing)
                self.assertIs(told.exception.thing, thing)


class TestDeeds(unittest.TestCase):
    def setUp(self):
        self.helper = Helper(HOUSE)

    def gone(self, number, wanted):
        same(self, (number, self.helper.make(), self.helper.house()), (len(self.helper) - 1, number, wanted))

    def with_text(self, file, text):
        return tuple((other, text if other == file else told) for other, told in self.helper.house())

    def test_edits_of_both_editors_with_their_makes_numbers(self):
        for number, (editor, file, edit) in enumerate((
                (0, "aa", (0, 0, "x")), (1, "aa", (0, 1, "")), (1, "cc", (0, 0, "let a = 1\n")), (0, "bb", (21, 0, "let e = 1")),
                (0, "aa", (48, 2, ""))), 1):
            wanted = self.with_text(file, done(self.helper.text(file), edit))
            told = self.helper.edit(editor, file, edit)
            same(self, told, number)
            self.gone(told, wanted)

    def test_edit_handed_in_as_a_list_and_by_names(self):
        same(self, self.helper.edit(edit=[0, 4, "x"], file="aa", editor=1), 1)
        same(self, self.helper.text("aa"), "x" + HOUSE[0][1][4:])

    def refused(self, error, field, deed):
        """Checks that the deed is refused, and that nothing is changed by it."""
        ahead = state(self.helper)
        with self.assertRaises(error) as told:
            deed()
        if field is not None:
            same(self, getattr(told.exception, field[0]), field[1])
        self.assertEqual(state(self.helper), ahead)

    def test_edit_refused(self):
        self.refused(NoFile, ("file", "zz"), lambda: self.helper.edit(0, "zz", (0, 0, "x" * 99)))
        self.refused(NoFile, ("file", "zz"), lambda: self.helper.edit(0, "zz", None))
        size = len(HOUSE[0][1])
        for thing in (None, (), [0, 0], (0, 0, 0), (-1, 0, ""), (0, -1, ""), (0, size + 1, ""), (size + 1, 0, ""), (size, 1, "x" * 99),
                      (0, 0, None), (0, 0, "\t"), [0, 0, "", 0], "abc", (True, 0, ""), (0, [0], "")):
            self.refused(NoEdit, ("thing", thing), lambda: self.helper.edit(1, "aa", thing))
        self.refused(TooLong, None, lambda: self.helper.edit(0, "aa", (0, 0, "x" * 54)))
        self.refused(TooLong, None, lambda: self.helper.edit(0, "aa", (0, 0, "\n" * 21)))

    def test_lay(self):
        wanted = self.with_text("aa", laid_text(HOUSE[0][1]))
        self.gone(self.helper.lay(0, "aa"), wanted)
        same(self, self.helper.text("aa").split("\n")[1], "let a = b + 1")
        self.gone(self.helper.lay(file="cc", editor=1), wanted)
        self.refused(NoFile, ("file", "dd"), lambda: self.helper.lay(0, "dd"))

    def test_lead(self):
        self.gone(self.helper.lead(0, ("aa", 1, 4), "x"), led(HOUSE, ("aa", 1, 4), "x"))
        self.gone(self.helper.lead(name="y", place=["aa", 1, 4], editor=1), led(HOUSE, ("aa", 1, 4), "y"))
        self.refused(BadName, ("name", "let"), lambda: self.helper.lead(0, ("zz", 1, 4), "let"))
        self.refused(NoName, ("place", ("aa", 1, 5)), lambda: self.helper.lead(0, ["aa", 1, 5], "z"))
        self.refused(NoName, ("place", ("aa", 0, 5)), lambda: self.helper.lead(0, ("aa", 0, 5), "z"))
        self.refused(Clash, ("place", ("aa", 2, 4)), lambda: self.helper.lead(0, ("aa", 1, 4), "f"))
        self.helper.edit(0, "cc", (0, 0, "let a = a" + " " * 51))
        self.refused(TooLong, None, lambda: self.helper.lead(0, ("cc", 0, 4), "aa"))

    def test_move(self):
        after = moved(HOUSE, "bb", 0, "cc")
        self.gone(self.helper.move(0, "bb", 0, "cc"), after)
        row = dict(after)["cc"].split("\n").index("let b = 2")
        self.gone(self.helper.move(goal="bb", row=row, file="cc", editor=1), moved(after, "cc", row, "bb"))

    def test_move_refused(self):
        self.refused(NoPiece, ("row", 0), lambda: self.helper.move(0, "aa", 0, "zz"))
        self.refused(NoPiece, ("file", "zz"), lambda: self.helper.move(0, "zz", 0, "aa"))
        self.refused(NoFile, ("file", "zz"), lambda: self.helper.move(0, "bb", 1, "zz"))
        self.refused(NoFile, ("file", "bb"), lambda: self.helper.move(0, "bb", 1, "bb"))
        self.helper.edit(0, "cc", (0, 0, "let d = 1"))
        self.refused(Clash, ("place", ("bb", 1, 4)), lambda: self.helper.move(1, "bb", 1, "cc"))
        self.helper.edit(0, "cc", (9, 0, "\n" * 23))
        self.refused(TooLong, None, lambda: self.helper.move(0, "bb", 0, "cc"))

    def test_mend(self):
        for fault in faults(HOUSE):
            for number, (file, edit) in enumerate(mends(HOUSE, fault)):
                for handed in (fault, listed(fault)):
                    self.helper = Helper(HOUSE)
                    wanted = self.with_text(file, done(dict(HOUSE)[file], edit))
                    self.gone(self.helper.mend(1, handed, number=number), wanted)
        fault = faults(HOUSE)[0]
        self.helper, other = Helper(HOUSE), Helper(HOUSE)
        same(self, self.helper.mend(0, fault), other.mend(editor=0, fault=fault, number=0))
        same(self, self.helper.house(), other.house())
        with self.assertRaises(TypeError):
            self.helper.mend(0, fault, 0)

    def test_mend_refused(self):
        fault = faults(HOUSE)[0]
        many = len(mends(HOUSE, fault))
        self.assertGreater(many, 0)
        for number in (-1, many, many + 1, 99):
            self.refused(NoMend, ("number", number), lambda: self.helper.mend(0, fault, number=number))
        for other in ((("aa", 0, 0), "odd", ""), (("zz", 0, 0), "odd", ""), (fault[0], fault[1], "x"), None, (), "x", [1, [2]]):
            for number in (0, 3):
                self.refused(NoMend, ("number", number), lambda: self.helper.mend(0, other, number=number))

    def test_deed_by_which_nothing_changes_makes_a_make(self):
        for number, deed in enumerate((
                lambda: self.helper.edit(0, "aa", (0, 0, "")), lambda: self.helper.edit(1, "aa", (0, 4, "take")),
                lambda: self.helper.lay(1, "cc"), lambda: self.helper.lead(0, ("bb", 0, 4), "b")), 1):
            self.gone(deed(), HOUSE)
            same(self, (self.helper.make(), len(self.helper), self.helper.work()), (number, number + 1, (0, 0)))


class TestAsks(unittest.TestCase):
    def test_as_told_of_the_present_house(self):
        helper = Helper(HOUSE)
        for edit in ((0, 0, ""), (8, 0, "let x = zz\n"), (0, 5, "x "), (0, 2, "take ")):
            helper.edit(0, "aa", edit)
            here = helper.house()
            same(self, helper.faults(), faults(here))
            same(self, helper.kinds(), piece_kinds(here))
            same(self, helper.worths(), values(here))
            for file, text in here:
                same(self, helper.text(file), text)
            for fault in faults(here):
                same(self, helper.mends(fault), mends(here, fault))
                same(self, helper.mends(fault=listed(fault)), mends(here, fault))
            for place in (("bb", 0, 4), ["bb", 0, 4], ("bb", 1, 4)):
                same(self, helper.target(place), target(here, place))
                same(self, helper.uses(place=place), uses(here, place))
        for place in [fault[0] for fault in helper.faults() if fault[1] == "part"]:
            same(self, helper.offers(place), offers(helper.house(), place))
            same(self, helper.offers(place, begin="a"), offers(helper.house(), place, begin="a"))

    def test_refused(self):
        helper = Helper(HOUSE)
        for file in ("zz", "", "a"):
            with self.assertRaises(NoFile) as told:
                helper.text(file)
            same(self, told.exception.file, file)
        for ask in (helper.target, helper.uses, helper.offers):
            for place in (["aa", 0, 0], ("aa", -1, 0), ("zz", 0, 0)):
                with self.assertRaises(NoName) as told:
                    ask(place)
                same(self, told.exception.place, tuple(place))
        with self.assertRaises(TypeError):
            helper.offers(("aa", 3, 11), "a")

    def test_mends_of_a_fault_that_is_not_told(self):
        same(self, Helper(HOUSE).mends((("aa", 0, 0), "odd", "")), [])

    def test_text_at(self):
        helper = Helper(HOUSE)
        texts = [HOUSE]
        for number in range(6):
            helper.edit(number % 2, "abc"[number % 3] * 2, (0, 0, "\n"))
            texts.append(helper.house())
        for make, told in enumerate(texts):
            for file, text in told:
                same(self, helper.text_at(make, file), text)
                same(self, helper.text_at(file=file, make=make), text)
        for make in (-1, -7, 7, 8, 200):
            for file in ("aa", "zz"):
                with self.assertRaises(NoMake) as told:
                    helper.text_at(make, file)
                same(self, told.exception.number, make)
        with self.assertRaises(NoFile) as told:
            helper.text_at(3, "zz")
        same(self, told.exception.file, "zz")

    def test_two_hundred_makes(self):
        helper = Helper(HOUSE)
        for make in range(1, 121):
            edit = (0, 0, str(make % 10)) if make % 2 else (0, 1, "")
            same(self, helper.edit(make % 2, "cc", edit), make)
        for make in range(120, 41, -1):
            same(self, helper.undo(make % 2), 241 - make)
        same(self, (len(helper), helper.text("cc")), (200, helper.text_at(41, "cc")))
        same(self, (helper.can(0), helper.can(1)), ((20, 40), (21, 39)))
        same(self, helper.text_at(199, "cc"), helper.text("cc"))

    def test_told_anew(self):
        helper = Helper(house("let a = [1, zz]\nlet b = [1]\nlet c = b\nlet it = "))
        for ask in (helper.faults, helper.kinds, helper.worths, lambda: helper.uses(("aa", 0, 4)), helper.marks, helper.waiting,
                    lambda: helper.mends(helper.faults()[0]), lambda: helper.offers(("aa", 3, 9)), helper.late):
            helper.mark(0, "aa", 3)
            helper.ask(1, "faults")
            told_anew(self, ask)

    def test_equal(self):
        def helper(*edits):
            told = Helper(HOUSE)
            for editor, edit in edits:
                told.edit(editor, "aa", edit)
            return told
        first = helper((0, (0, 0, "x")), (1, (0, 1, "")))
        alike = helper((1, (0, 0, "x")), (0, (0, 1, "")))
        self.assertTrue(first == alike)
        self.assertFalse(first != alike)
        same(self, (first == alike, helper() == helper(), helper() == Helper(listed(HOUSE))), (True, True, True))
        # Of other makes, though the present house is the same.
        for other in (helper(), helper((0, (0, 0, "")), (0, (0, 0, ""))), helper((0, (0, 0, "y")), (1, (0, 1, "")))):
            self.assertEqual(other.house(), first.house())
            same(self, (first == other, first != other, other == first), (False, True, False))
        undone = helper((0, (0, 0, "x")))
        undone.undo(0)
        self.assertTrue(undone == first)
        for thing in THINGS + [HOUSE, first.house(), object(), Helper]:
            same(self, (first == thing, thing == first, first != thing), (False, False, True))
        first.mark(0, "aa", 0)
        first.ask(1, "kinds")
        self.assertTrue(first == alike)

    def test_twin(self):
        first = Helper(HOUSE)
        for editor, edit in ((0, (0, 0, "x")), (1, (3, 2, "\n")), (0, (9, 0, "let")), (1, (0, 0, "; "))):
            first.edit(editor, "aa", edit)
        first.undo(1)
        first.mark(0, "aa", 5)
        first.mark(1, "bb", 0)
        first.drop(0)
        first.ask(0, "faults")
        first.ask(1, "kinds")
        first.withdraw(0)
        other = first.twin()
        self.assertIs(first == other, True)
        same(self, state(other), state(first))
        ahead = state(first)
        # It goes on alike, and by itself.
        for deed in (lambda: other.redo(1), lambda: other.undo(0), lambda: other.mark(0, "aa", 1), lambda: other.ask(0, "values"),
                     other.answer, lambda: other.lay(0, "aa"), lambda: other.drop(1), lambda: other.withdraw(2)):
            deed()
            same(self, state(first), ahead)
        self.assertIs(first == other, False)
        one, two = first.twin(), first.twin()
        for deed in (lambda each: each.redo(1), lambda each: each.undo(0), lambda each: each.mark(0, "aa", 1),
                     lambda each: each.ask(0, "values"), lambda each: each.answer(), lambda each: each.lay(0, "aa")):
            same(self, deed(one), deed(two))
            same(self, state(one), state(two))
        same(self, state(first), ahead)

    def test_twin_numbers_marks_and_leaves_pairs_out_as_it_would(self):
        first = Helper(house("let a = 1"))
        for editor, edit in ((0, (8, 0, "abc")), (1, (9, 1, ""))):
            first.edit(editor, "aa", edit)
        first.undo(1)
        first.mark(0, "aa", 0)
        first.mark(1, "aa", 0)
        first.drop(1)
        first.ask(0, "kinds")
        first.answer()
        other = first.twin()
        # Makes 2 and 3 are a pair: without it what was put couldn't be taken back.
        for each in (other, first):
            same(self, (each.mark(0, "aa", 2), each.ask(1, "faults"), each.undo(0)), (2, 1, 4))
            same(self, each.text("aa"), "let a = 1")
        same(self, state(other), state(first))

    def test_what_one_twin_takes_back_the_other_one_did_not(self):
        first = Helper(house("let a = 1"))
        for editor, edit in ((0, (8, 0, "abc")), (1, (9, 1, ""))):
            first.edit(editor, "aa", edit)
        other = first.twin()
        same(self, (other.undo(1), other.undo(0), other.text("aa")), (3, 4, "let a = 1"))
        # Here make 3 is a deed by itself, and so no pair with make 2.
        same(self, first.edit(1, "aa", (0, 0, "\n")), 3)
        with self.assertRaises(Tangled) as told:
            first.undo(0)
        same(self, told.exception.number, 2)


if __name__ == "__main__":
    unittest.main()
