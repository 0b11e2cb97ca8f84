"""Point [4]: edits of a text."""

import random
import unittest

from helpers import SIGNS, THINGS, listed, same
from typedahead import edits
from typedahead.edits import back_of, between, carried, done, is_edit, shifted
from typedahead.errors import Tangled, TooLong
from typedahead.texts import is_text

TEXTS = ["", "a", "ab", "\n", "a\nb", "\n\n", "let a = 1\nlet b = a", "aaaa", "abab", "x" * 60]


def small_edits(text, puts=("", "x", "yz", "\n")):
    """All edits of the text that put one of these."""
    return [(at, cut, put) for at in range(len(text) + 1)
            for cut in range(len(text) - at + 1) for put in puts]


def behind(text, edit):
    """The text behind the edit, also where it's none."""
    at, cut, put = edit
    return text[:at] + put + text[at + cut:]


class TestIsEdit(unittest.TestCase):
    def yes(self, text, thing):
        self.assertIs(is_edit(text, thing), True, (text, thing))

    def no(self, text, thing):
        self.assertIs(is_edit(text, thing), False, (text, thing))

    def test_defined_in_their_file(self):
        for told in (is_edit, done, back_of, between, shifted, carried):
            self.assertEqual(told.__module__, edits.__name__)

    def test_each_place_and_cut(self):
        for text in TEXTS:
            for at in range(-3, len(text) + 4):
                for cut in range(-3, len(text) + 4):
                    fits = at >= 0 and cut >= 0 and at + cut <= len(text)
                    self.assertIs(is_edit(text, (at, cut, "x")), fits, (text, at, cut))

    def test_ends(self):
        self.yes("", (0, 0, ""))
        self.yes("abc", (0, 0, ""))
        self.yes("abc", (3, 0, ""))
        self.yes("abc", (0, 3, ""))
        self.yes("abc", (1, 2, "x"))
        self.no("abc", (4, 0, ""))
        self.no("abc", (3, 1, ""))
        self.no("abc", (0, 4, ""))
        self.no("abc", (-1, 0, ""))
        self.no("abc", (-1, 1, ""))
        self.no("abc", (2, -1, ""))
        self.no("", (0, 1, ""))
        self.no("abc", (10 ** 30, 0, ""))
        self.no("abc", (0, 10 ** 30, ""))
        self.no("abc", (10 ** 30, -10 ** 30, ""))

    def test_true_and_false_are_no_numbers(self):
        for thing in ((True, 0, ""), (False, 0, ""), (0, True, ""), (0, False, ""), (True, True, "")):
            self.no("abc", thing)

    def test_puts(self):
        for put in ("", "x", "\n", "a\nb", "\n" * 100, "x" * 5000, " ", SIGNS, SIGNS + "\n" + SIGNS, "(0, 0)"):
            self.yes("abc", (1, 1, put))

    def test_puts_with_what_is_no_sign(self):
        for bad in ["%", "\t", "\r", "\x00", chr(31), chr(127), "\x85", "\u2028", "\u00e9", "\uff41", "\U0001f600"]:
            for put in (bad, "a" + bad, bad + "a", "a\n" + bad + "\n", "x" * 300 + bad):
                self.no("abc", (1, 1, put))

    def test_things_for_its_parts(self):
        for thing in THINGS:
            fits = type(thing) is int and 0 <= thing <= 1
            self.assertIs(is_edit("a", (thing, 0, "")), fits)
            self.assertIs(is_edit("a", (0, thing, "")), fits)
            self.assertIs(is_edit("a", (0, 0, thing)), isinstance(thing, str))

    def test_list_for_the_tuple(self):
        self.no("abc", [0, 0, ""])
        self.no("abc", [1, 1, "x"])
        self.no("abc", [(0, 0, "")])
        self.no("abc", ((0, 0, ""),))
        self.no("abc", (0, 0, ["x"]))

    def test_other_numbers_of_parts(self):
        for thing in ((), (0,), (0, 0), (0, 0, "", ""), (0, 0, "", 0), (0, "", 0), ("", 0, 0)):
            self.no("abc", thing)

    def test_things_of_any_kind(self):
        for thing in THINGS:
            self.no("abc", thing)
            self.no("", thing)

    def test_arguments_by_their_names(self):
        self.assertIs(is_edit(text="abc", thing=(3, 0, "")), True)
        self.assertIs(is_edit(thing=(4, 0, ""), text="abc"), False)

    def test_leaves_what_is_handed_in(self):
        thing = [0, 0, ["x"]]
        is_edit("abc", thing)
        self.assertEqual(thing, [0, 0, ["x"]])


class TestDone(unittest.TestCase):
    def test_told(self):
        for text, edit, wanted in (
            ("", (0, 0, ""), ""),
            ("", (0, 0, "a\nb"), "a\nb"),
            ("abc", (0, 0, "x"), "xabc"),
            ("abc", (3, 0, "x"), "abcx"),
            ("abc", (1, 0, "xy"), "axybc"),
            ("abc", (0, 1, ""), "bc"),
            ("abc", (2, 1, ""), "ab"),
            ("abc", (0, 3, ""), ""),
            ("abc", (0, 3, "z"), "z"),
            ("abc", (1, 1, "\n"), "a\nc"),
            ("a\nb", (1, 1, ""), "ab"),
            ("a\nb\nc", (0, 4, ""), "c"),
            ("a\nb\nc", (1, 3, "-"), "a-c"),
            ("a\n\nb", (1, 2, "\n\n\n"), "a\n\n\nb"),
            ("abc", (1, 1, "b"), "abc"),
        ):
            same(self, done(text, edit), wanted)
            same(self, done(text, listed(edit)), wanted)

    def test_rows_up_to_24(self):
        text = "\n" * 22
        self.assertEqual(done(text, (5, 0, "\n")), "\n" * 23)
        for edit in ((5, 0, "\n\n"), (0, 0, "\n\n"), (22, 0, "\n\n"), (0, 22, "\n" * 24)):
            with self.assertRaises(TooLong):
                done(text, edit)
        self.assertEqual(done("\n" * 23, (3, 1, "\n")), "\n" * 23)
        self.assertEqual(done("\n" * 23, (3, 1, "ab")), "\n" * 3 + "ab" + "\n" * 19)

    def test_signs_up_to_60(self):
        text = "x" * 59 + "\n" + "y" * 59
        self.assertEqual(done(text, (0, 0, "z")), "z" + text)
        self.assertEqual(done(text, (119, 0, "z")), text + "z")
        self.assertEqual(done(text, (30, 0, "\n" * 5)), "x" * 30 + "\n" * 5 + "x" * 29 + "\n" + "y" * 59)
        for edit in ((0, 0, "zz"), (119, 0, "zz"), (59, 1, ""), (59, 0, "zz"), (60, 0, "zz")):
            with self.assertRaises(TooLong):
                done(text, edit)

    def test_long_put_that_fits(self):
        put = "\n".join(["~" * 60] * 24)
        self.assertEqual(done("abc", (0, 3, put)), put)
        with self.assertRaises(TooLong):
            done("abc", (0, 2, put))

    def test_refused_where_no_text_and_only_there(self):
        chance = random.Random(4)
        for _ in range(3000):
            text = "\n".join("a" * chance.choice((0, 1, 58, 59, 60)) for _ in range(chance.choice((1, 2, 23, 24))))
            at = chance.randrange(len(text) + 1)
            cut = chance.choice((0, 0, 1, chance.randrange(len(text) - at + 1)))
            edit = (at, min(cut, len(text) - at), chance.choice(("", "b", "\n", "bb", "\n\n", "b\nb")))
            if is_text(behind(text, edit)):
                self.assertEqual(done(text, edit), behind(text, edit))
            else:
                with self.assertRaises(TooLong):
                    done(text, edit)

    def test_arguments_by_their_names(self):
        self.assertEqual(done(text="abc", edit=(1, 1, "x")), "axc")
        self.assertEqual(done(edit=(1, 1, "x"), text="abc"), "axc")

    def test_edit_stays(self):
        edit = [1, 1, "x"]
        done("abc", edit)
        back_of("abc", edit)
        shifted(1, edit)
        carried(edit, edit[:1] + [0, ""])
        self.assertEqual(edit, [1, 1, "x"])


class TestBackOf(unittest.TestCase):
    def test_told(self):
        for text, edit, wanted in (
            ("abc", (1, 1, "xy"), (1, 2, "b")),
            ("abc", (0, 3, ""), (0, 0, "abc")),
            ("abc", (3, 0, "\n\n"), (3, 2, "")),
            ("a\nb", (0, 2, "z"), (0, 1, "a\n")),
            ("", (0, 0, ""), (0, 0, "")),
        ):
            same(self, back_of(text, edit), wanted)
            same(self, back_of(text, listed(edit)), wanted)

    def test_done_behind_done(self):
        for text in TEXTS[:7]:
            for edit in small_edits(text):
                back = back_of(text, edit)
                self.assertIs(is_edit(behind(text, edit), back), True)
                self.assertEqual(done(done(text, edit), back), text)

    def test_where_the_text_behind_is_none(self):
        for text, edit in (
            ("x" * 60, (30, 0, "yy")),
            ("\n" * 23, (3, 0, "\n\n")),
            ("abc", (1, 1, "z" * 5000)),
            ("a" * 60 + "\n" + "b" * 60, (60, 1, "")),
        ):
            with self.assertRaises(TooLong):
                done(text, edit)
            back = back_of(text, edit)
            same(self, back, (edit[0], len(edit[2]), text[edit[0]:edit[0] + edit[1]]))
            self.assertEqual(done(behind(text, edit), back), text)

    def test_arguments_by_their_names(self):
        same(self, back_of(text="abc", edit=(1, 1, "xy")), (1, 2, "b"))


class TestBetween(unittest.TestCase):
    def test_told(self):
        for text, other, wanted in (
            ("", "", (0, 0, "")),
            ("abc", "abc", (3, 0, "")),
            ("", "abc", (0, 0, "abc")),
            ("abc", "", (0, 3, "")),
            ("abc", "abcd", (3, 0, "d")),
            ("abcd", "abc", (3, 1, "")),
            ("bc", "abc", (0, 0, "a")),
            ("abc", "bc", (0, 1, "")),
            ("abc", "axc", (1, 1, "x")),
            ("abc", "xyz", (0, 3, "xyz")),
            ("aaa", "aaaa", (3, 0, "a")),
            ("aaaa", "aaa", (3, 1, "")),
            ("aaaa", "aa", (2, 2, "")),
            ("aa", "aaaa", (2, 0, "aa")),
            ("abab", "ab", (2, 2, "")),
            ("ab", "abab", (2, 0, "ab")),
            ("abba", "aba", (2, 1, "")),
            ("aba", "abba", (2, 0, "b")),
            ("aXbXa", "aXa", (2, 2, "")),
            ("aXa", "aXbXa", (2, 0, "bX")),
            ("a\nb\nc", "a\nc", (2, 2, "")),
            ("a\nc", "a\nb\nc", (2, 0, "b\n")),
            ("\n\n", "\n", (1, 1, "")),
            ("xay", "xby", (1, 1, "b")),
            ("aab", "ab", (1, 1, "")),
        ):
            same(self, between(text, other), wanted)

    def test_at_as_great_then_cut_as_small(self):
        texts = ["", "a", "b", "aa", "ab", "ba", "aab", "aba", "bab", "abab", "aaa", "aaaa", "baab", "abba"]
        for text in texts:
            for other in texts:
                fits = [(at, -cut) for at in range(len(text) + 1) for cut in range(len(text) - at + 1)
                        if self.put(text, other, at, cut) is not None]
                at, cut = max(fits)
                same(self, between(text, other), (at, -cut, self.put(text, other, at, -cut)))

    def put(self, text, other, at, cut):
        """What must be put there for the other text to come of it; None where nothing can be."""
        many = len(other) - len(text) + cut
        if many < 0 or behind(text, (at, cut, other[at:at + many])) != other:
            return None
        return other[at:at + many]

    def test_one_becomes_the_other(self):
        for text in TEXTS:
            for other in TEXTS:
                edit = between(text, other)
                self.assertIs(is_edit(text, edit), True)
                self.assertEqual(done(text, edit), other)

    def test_arguments_by_their_names(self):
        same(self, between(text="abc", other="abcd"), (3, 0, "d"))
        same(self, between(other="abcd", text="abc"), (3, 0, "d"))


class TestShifted(unittest.TestCase):
    def test_told(self):
        for at, edit, wanted in (
            (0, (2, 3, "xy"), 0),
            (1, (2, 3, "xy"), 1),
            (2, (2, 3, "xy"), 2),
            (3, (2, 3, "xy"), 2),
            (4, (2, 3, "xy"), 2),
            (5, (2, 3, "xy"), 4),
            (6, (2, 3, "xy"), 5),
            (5, (2, 3, ""), 2),
            (5, (2, 3, "vwxyz"), 7),
            (3, (2, 1, ""), 2),
            (2, (2, 1, "x"), 2),
            (3, (2, 1, "x"), 3),
            (0, (0, 0, ""), 0),
            (1, (2, 0, "x"), 1),
            (3, (2, 0, "x"), 4),
        ):
            for ahead in ({}, {"ahead": True}, {"ahead": False}):
                same(self, shifted(at, edit, **ahead), wanted)
                same(self, shifted(at, listed(edit), **ahead), wanted)

    def test_nothing_cut_at_the_same_place(self):
        for at, put in ((0, "x"), (2, "xy"), (5, "\n"), (60, "abc")):
            same(self, shifted(at, (at, 0, put)), at)
            same(self, shifted(at, (at, 0, put), ahead=True), at)
            same(self, shifted(at, (at, 0, put), ahead=False), at + len(put))
            same(self, shifted(at, [at, 0, put], ahead=False), at + len(put))

    def test_same_place_with_something_cut_stays(self):
        same(self, shifted(2, (2, 1, "xy"), ahead=False), 2)
        same(self, shifted(2, (2, 1, ""), ahead=False), 2)

    def test_ahead_by_its_name_alone(self):
        with self.assertRaises(TypeError):
            shifted(2, (2, 0, "x"), False)

    def test_arguments_by_their_names(self):
        same(self, shifted(at=2, edit=(2, 0, "x"), ahead=False), 3)
        same(self, shifted(ahead=True, edit=(2, 0, "x"), at=2), 2)


class TestCarried(unittest.TestCase):
    def told(self, edit, other, wanted, **ahead):
        same(self, carried(edit, other, **ahead), wanted)
        same(self, carried(listed(edit), listed(other), **ahead), wanted)

    def test_stays_where_it_ends_at_the_others_at_or_ahead(self):
        for ahead in ({}, {"ahead": True}, {"ahead": False}):
            self.told((0, 1, "p"), (3, 1, "xyz"), (0, 1, "p"), **ahead)
            self.told((1, 2, "p"), (3, 1, "xyz"), (1, 2, "p"), **ahead)
            self.told((1, 2, "p"), (3, 0, "xyz"), (1, 2, "p"), **ahead)
            self.told((3, 0, "p"), (3, 1, "xyz"), (3, 0, "p"), **ahead)
            self.told((2, 0, ""), (3, 0, "xyz"), (2, 0, ""), **ahead)

    def test_goes_along_where_it_begins_behind_what_is_cut(self):
        for ahead in ({}, {"ahead": True}, {"ahead": False}):
            self.told((5, 1, "p"), (3, 1, "xyz"), (7, 1, "p"), **ahead)
            self.told((4, 1, "p"), (3, 1, "xyz"), (6, 1, "p"), **ahead)
            self.told((4, 0, "p"), (3, 1, "xyz"), (6, 0, "p"), **ahead)
            self.told((4, 0, "p"), (3, 1, ""), (3, 0, "p"), **ahead)
            self.told((4, 2, "p"), (1, 3, ""), (1, 2, "p"), **ahead)
            self.told((3, 1, "p"), (3, 0, "xyz"), (6, 1, "p"), **ahead)

    def test_both_so(self):
        self.told((3, 0, "p"), (3, 0, "xyz"), (3, 0, "p"))
        self.told((3, 0, "p"), (3, 0, "xyz"), (3, 0, "p"), ahead=True)
        self.told((3, 0, "p"), (3, 0, "xyz"), (6, 0, "p"), ahead=False)
        self.told((0, 0, ""), (0, 0, "x"), (1, 0, ""), ahead=False)

    def test_tangled(self):
        for edit, other in (
            ((3, 1, "p"), (3, 1, "p")),
            ((2, 2, "p"), (3, 1, "")),
            ((2, 2, "p"), (3, 0, "x")),
            ((3, 0, "p"), (2, 2, "")),
            ((3, 2, ""), (2, 2, "")),
            ((0, 5, ""), (1, 1, "")),
            ((1, 1, ""), (0, 5, "")),
            ((0, 2, ""), (0, 1, "x")),
        ):
            for ahead in ({}, {"ahead": True}, {"ahead": False}):
                with self.assertRaises(Tangled) as refused:
                    carried(edit, other, **ahead)
                same(self, refused.exception.number, 0)

    def test_every_two_of_a_text(self):
        text = "abc"
        for edit in small_edits(text, ("", "pq")):
            for other in small_edits(text, ("", "x")):
                self.one_of_each_case(edit, other)

    def one_of_each_case(self, edit, other):
        stays = edit[0] + edit[1] <= other[0]
        goes = edit[0] >= other[0] + other[1]
        along = (edit[0] + len(other[2]) - other[1], edit[1], edit[2])
        for ahead in (True, False):
            if not stays and not goes:
                with self.assertRaises(Tangled):
                    carried(edit, other, ahead=ahead)
            else:
                self.told(edit, other, edit if stays and (ahead or not goes) else along, ahead=ahead)

    def test_both_orders_come_to_one_text(self):
        text = "ab\nc"
        met = 0
        for edit in small_edits(text, ("", "p", "q\n")):
            for other in small_edits(text, ("", "x", "yz")):
                try:
                    first = carried(other, edit, ahead=False)
                    second = carried(edit, other)
                except Tangled:
                    continue
                met += 1
                self.assertEqual(done(done(text, edit), first), done(done(text, other), second))
        self.assertGreater(met, 300)

    def test_refused_one_way_where_refused_the_other(self):
        for edit in small_edits("abcd", ("x",)):
            for other in small_edits("abcd", ("y",)):
                self.assertEqual(self.refused(edit, other, True), self.refused(other, edit, False))

    def refused(self, edit, other, ahead):
        try:
            carried(edit, other, ahead=ahead)
        except Tangled:
            return True
        return False

    def test_ahead_by_its_name_alone(self):
        with self.assertRaises(TypeError):
            carried((3, 0, "p"), (3, 0, "x"), False)

    def test_arguments_by_their_names(self):
        same(self, carried(edit=(3, 0, "p"), other=(3, 0, "x"), ahead=False), (4, 0, "p"))
        same(self, carried(other=(3, 0, "x"), edit=(3, 0, "p")), (3, 0, "p"))


if __name__ == "__main__":
    unittest.main()
