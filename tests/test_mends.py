"""Point [12]: the mends of a fault."""

import random
import time
import unittest

import oracle_faults
from chances import faulty_house, full_house
from helpers import listed, same, told_anew
from test_faults import house
from typedahead import mends as mends_file
from typedahead.edits import done, is_edit, shifted
from typedahead.faults import faults
from typedahead.mends import mends
from typedahead.texts import at_of, spot


def fault_of(where, word, place=None):
    """The house's first fault of that word, at the place if one is told."""
    return [fault for fault in faults(where) if fault[1] == word and place in (None, fault[0])][0]


class TestMends(unittest.TestCase):
    def told(self, texts, word, wanted, place=None):
        """Checks the mends of the house's first fault of that word, told as texts of its file."""
        where = house(*texts) if isinstance(texts, tuple) else house(texts)
        fault = fault_of(where, word, place)
        same(self, (texts, fault, mends(where, fault)), (texts, fault, [(fault[0][0], edit) for edit in wanted]))

    def test_defined_in_their_file(self):
        self.assertEqual(mends.__module__, mends_file.__name__)

    def test_start(self):
        self.told("x y", "start", [(0, 3, "")])
        self.told("let a = 1\n  x y\nlet b = a", "start", [(10, 5, "")])
        self.told("let a = 1\n;", "start", [(10, 1, "")])
        # Its stretch is the whole row: not the first token alone goes, nor what stands behind it.
        self.told("x let a = 1", "start", [(0, 11, "")])
        self.told("let b = 1\n  x take bb ", "start", [(10, 12, "")])

    def test_name(self):
        self.told("take", "name", [(0, 4, "")])
        self.told("let = 1", "name", [(0, 7, "")])
        self.told("let a = 1\ndef f(num) = 1", "name", [(10, 14, "")])

    def test_told(self):
        self.told("def f(a) = a", "told", [(0, 12, "")])
        self.told("def f(a) = 1\nlet b = f(1)", "told", [])

    def test_part(self):
        self.told("let a =", "part", [(7, 0, " 0 "), (7, 0, ' "" '), (7, 0, " no "), (0, 7, "")])
        self.told("let b = 1 +\nlet c = b", "part", [(11, 0, " 0 ")])
        self.told("let b = 1 < & c\nlet c = 1", "part", [(12, 0, " 0 "), (0, 15, "")])
        self.told('let b = "x" &', "part", [(13, 0, ' "" '), (0, 13, "")])
        self.told("let b = if", "part", [(0, 10, "")])

    def test_extra(self):
        self.told("let a = 1 2 3", "extra", [(10, 3, ""), (0, 13, "")])
        self.told("let a = 1 2 ?\nlet b = a", "extra", [(10, 3, "")])
        self.told(("take bb aa", "let a = 1"), "extra", [(8, 2, ""), (0, 10, "")])

    def test_sign(self):
        self.told("let a 1", "sign", [(6, 0, " = "), (0, 7, "")])
        self.told("let a = (1\nlet b = a", "sign", [(10, 0, " ) ")])
        self.told("let a = if yes 1 else 2", "sign", [(15, 0, " then "), (0, 23, "")])
        self.told("let a = [1", "sign", [(10, 0, " ] "), (0, 10, "")])
        self.told("def f(a num = a", "sign", [(12, 0, " ) "), (0, 15, "")])

    def test_sign_behind_which_a_part_stays_wanting(self):
        self.told("let a = if yes then 1", "sign", [(21, 0, " else "), (0, 21, "")])
        self.told("let a", "sign", [(5, 0, " = "), (0, 5, "")])

    def test_odd(self):
        self.told("let a = ;", "odd", [(8, 1, " 0 "), (8, 1, ' "" '), (8, 1, " no "), (8, 1, ""), (0, 9, "")])
        self.told("let a = 1 ;", "odd", [(10, 1, ""), (0, 11, "")])
        self.told('let a = "x + 1', "odd", [(8, 6, " 0 "), (8, 6, ' "" '), (8, 6, " no "), (8, 6, ""), (0, 14, "")])
        self.told("let a = 1 + abcdefghi", "odd", [(12, 9, " 0 "), (12, 9, ""), (0, 21, "")])

    def test_nofile(self):
        self.told(("take zz", "let a = 1"), "nofile", [(0, 7, "")])
        self.told(("let b = a\ntake zz", "let a = 1"), "nofile", [(10, 7, "")])

    def test_twice(self):
        self.told("let a = 1\nlet a = 2\nlet b = a", "twice", [(10, 9, "")])
        self.told("def f(a num, a num) = a\nlet a = 1", "twice", [(0, 23, "")])

    def test_unknown(self):
        self.told("let a = zz", "unknown", [(8, 2, " 0 "), (8, 2, ' "" '), (8, 2, " no "), (0, 10, "")])
        self.told("let a = zz + 1\nlet b = a", "unknown", [(8, 2, " 0 ")])
        self.told("let a = zz(1)", "unknown", [(8, 2, ""), (0, 13, "")])
        self.told(("let a = zz", "let zz = 1"), "unknown", [
            (8, 2, " 0 "), (8, 2, ' "" '), (8, 2, " no "), (0, 10, ""), (0, 0, "take bb\n")])

    def test_takes_for_each_other_file_in_order(self):
        texts = ("let a = b + c\nlet d = 1", "let b = 1", 'let b = ""', "let b = 2\nlet c = 3")
        where = house(*texts)
        self.told(texts, "unknown", [(8, 1, " 0 "), (0, 13, ""), (0, 0, "take bb\n"), (0, 0, "take dd\n")])
        same(self, mends(where[1:] + where[:1], fault_of(where, "unknown")), mends(where, fault_of(where, "unknown")))
        same(self, [edit for _, edit in mends((where[0], *where[:0:-1]), fault_of(where, "unknown"))][2:],
             [(0, 0, "take dd\n"), (0, 0, "take bb\n")])

    def test_unclear(self):
        self.told(("take bb\ntake cc\nlet b = a", "let a = 1", "let a = 2"), "unclear", [
            (24, 1, " 0 "), (24, 1, ' "" '), (24, 1, " no "), (16, 9, "")])

    def test_value(self):
        self.told("let a = f\ndef f(n num) = n", "value", [(8, 1, " 0 "), (8, 1, ' "" '), (8, 1, " no "), (0, 9, "")])

    def test_call(self):
        self.told("let a = b(1)\nlet b = 1", "call", [(8, 1, ""), (0, 12, "")])
        self.told("def f(n num) = n(1) + 2", "call", [(15, 1, ""), (0, 23, "")])

    def test_count(self):
        self.told("let a = f(1, 2)\ndef f(n num) = n", "count", [(0, 15, "")])
        self.told("let a = f(1)\ndef f(n num, m num) = n", "count", [(8, 1, ""), (0, 12, "")])

    def test_unfit(self):
        self.told('let a = "x" + 1', "unfit", [(8, 3, " 0 "), (0, 15, "")])
        self.told('let a = 1 & yes\nlet b = a', "unfit", [(8, 1, ' "" ')], ("aa", 0, 8))
        self.told('let a = 1 & yes\nlet b = a', "unfit", [(12, 3, ' "" ')], ("aa", 0, 12))
        self.told("let a = if 1 then 2 else 3", "unfit", [(11, 1, " no "), (0, 26, "")])

    def test_ring(self):
        self.told("let a = a", "ring", [(0, 9, "")])
        self.told("let a = b\nlet b = a", "ring", [])

    def test_none_behind_which_an_alike_fault_is_told_at_the_place(self):
        # Where the first ; is cut out the second one comes to stand in its place.
        where = house("let a = 1 ;;")
        first, second = [fault for fault in faults(where) if fault[1] == "odd"]
        same(self, [edit for _, edit in mends(where, first)], [(0, 12, "")])
        same(self, [edit for _, edit in mends(where, second)], [
            (11, 1, " 0 "), (11, 1, ' "" '), (11, 1, " no "), (11, 1, ""), (0, 12, "")])

    def test_too_long_is_none(self):
        row = "let a = zz" + " " * 50
        self.told(row, "unknown", [(0, 60, "")])
        self.told(row[:-1], "unknown", [(8, 2, " 0 "), (0, 59, "")])
        self.told(row[:-3], "unknown", [(8, 2, " 0 "), (8, 2, ' "" '), (8, 2, " no "), (0, 57, "")])
        full = "\n".join(["let a = zz"] + [""] * 23)
        self.told((full, "let zz = 1"), "unknown", [(8, 2, " 0 "), (8, 2, ' "" '), (8, 2, " no "), (0, 10, "")])
        self.told((full[:-1], "let zz = 1"), "unknown", [
            (8, 2, " 0 "), (8, 2, ' "" '), (8, 2, " no "), (0, 10, ""), (0, 0, "take bb\n")])

    def test_each_once(self):
        where = house("? let\ntake bb", "let c = 1")
        for fault in faults(where):
            told = mends(where, fault)
            self.assertEqual(len(told), len(set(told)))
        self.told("x", "start", [(0, 1, "")])

    def test_fault_that_is_not_told(self):
        where = house("let a = zz", "let b = 1")
        fault = fault_of(where, "unknown")
        for other in ((("aa", 0, 9), "unknown", ""), (("bb", 0, 8), "unknown", ""), (fault[0], "unclear", ""),
                      (fault[0], "unknown", "x"), (("cc", 0, 8), "unknown", ""), (fault[0], "unfit", ("num", "word"))):
            same(self, mends(where, other), [])
        same(self, mends(house("let a = 1"), fault), [])

    def test_lists_for_tuples(self):
        where = house('let a = "x" + f(1)\ndef f(n num, m num) = n')
        for fault in faults(where):
            wanted = mends(where, fault)
            same(self, mends(listed(where), listed(fault)), wanted)
            same(self, mends(where, [fault[0], *listed(fault)[1:]]), wanted)
            same(self, mends(fault=listed(fault), house=where), wanted)
        self.assertEqual({fault[1] for fault in faults(where)}, {"unfit", "count"})

    def test_handed_in_stays_and_told_anew(self):
        where, fault = listed(house("let a = zz", "let zz = 1")), [["aa", 0, 8], "unknown", ""]
        told_anew(self, lambda: mends(where, fault))
        self.assertEqual((where, fault), (listed(house("let a = zz", "let zz = 1")), [["aa", 0, 8], "unknown", ""]))

    def held(self, where, fault):
        """Checks each mend: it does away with the fault and brings none."""
        for file, edit in mends(where, fault):
            text = dict(where)[file]
            self.assertIs(is_edit(text, edit), True)
            after = done(text, edit)
            ahead = []
            for (other, row, column), word, what in faults(where):
                at = shifted(at_of(text, row, column), edit, ahead=False) if other == file else None
                ahead.append(((other, row, column) if at is None else (file, *spot(after, at)), word, what))
            due = ahead[faults(where).index(fault)]
            behind = faults(tuple((other, after if other == file else told) for other, told in where))
            self.assertNotIn(due, behind)
            self.assertLessEqual(set(behind), set(ahead))

    def test_as_the_oracle_tells_it(self):
        chance = random.Random(23)
        met = {}
        for _ in range(150):
            where = faulty_house(chance)
            for fault in chance.sample(faults(where), min(3, len(faults(where)))):
                told = mends(where, fault)
                same(self, told, oracle_faults.mends(where, fault))
                self.held(where, fault)
                met.setdefault(fault[1], set()).add(len(told))
        self.assertGreater(len(met), 12)

    def test_great_houses(self):
        chance = random.Random(24)
        where = full_house(chance)
        begun = time.perf_counter()
        for fault in faults(where)[::9]:
            same(self, mends(where, fault), mends(where, fault))
        self.assertLess(time.perf_counter() - begun, 120)


if __name__ == "__main__":
    unittest.main()
