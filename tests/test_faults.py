"""Point [11]: the faults of a house."""

import random
import time
import unittest

import oracle_faults
from chances import faulty_house, full_house
from helpers import listed, same, told_anew
from typedahead import faults as faults_file
from typedahead.faults import faults
from typedahead.names import is_house


def house(*texts):
    """A house with these texts, its files called aa, bb and so on."""
    told = tuple((name * 2, text) for name, text in zip("abcdef", texts))
    assert is_house(told), told
    return told


def found(*texts):
    """The faults of the first file as (row, column, word, what)."""
    return [(*place[1:], word, what) for place, word, what in faults(house(*texts)) if place[0] == "aa"]


class Told(unittest.TestCase):
    def told(self, wanted, *texts):
        same(self, (texts, found(*texts)), (texts, wanted))

    def part(self, part, wanted, *rows):
        """Checks the faults (column in the part, word, what) of a part, in a row behind those."""
        told = [(row, column - 9, word, what) for row, column, word, what in found("\n".join([*rows, "let it = " + part]))
                if row == len(rows)]
        same(self, (part, [each[1:] for each in told]), (part, wanted))


class TestFaults(Told):
    def test_defined_in_their_file(self):
        self.assertEqual(faults.__module__, faults_file.__name__)

    def test_none(self):
        self.told([], "")
        self.told([], "\n\n  \n")
        self.told([], 'take bb\nlet a = b + 1\ndef f(c num, d words) = [c, a] at g(a, ["x"])\nlet e = "x" & d',
                  'let b = 2\nlet d = ""\ndef g(a num, b words) = a')
        self.told([], "let a = f(yes)\ndef f(a flag) = if a then [1] else [2]")

    def test_start(self):
        for row in ("a", "1", "= let a = 1", "if", "yes", '"take"', "num", "Let a = 1"[1:]):
            self.told([(0, 0, "start", "")], row)
        self.told([(1, 3, "start", "")], "let a = 1\n   x y\n")

    def test_name(self):
        self.told([(0, 4, "name", "")], "take")
        self.told([(0, 7, "name", ""), (0, 7, "extra", "")], "take   1")
        self.told([(0, 4, "name", "")], "let = 1")
        self.told([(0, 4, "name", "")], "def (a num) = a")
        self.told([(0, 6, "name", "")], "def f(num) = 1")
        self.told([(0, 13, "name", "")], "def f(a num, word) = a")

    def test_told(self):
        self.told([(0, 7, "told", "")], "def f(a) = a")
        self.told([(0, 7, "told", "")], "def f(a, b num) = a")
        self.told([(0, 8, "told", ""), (0, 8, "part", ""), (0, 8, "extra", ""), (0, 8, "sign", ")"), (0, 8, "sign", "=")],
                  "def f(a let) = a")

    def test_part(self):
        self.told([(0, 7, "part", "")], "let a =")
        self.told([(0, 9, "part", "")], "let a =  ")
        self.told([(0, 8, "part", "")], "let a = + 1")
        self.told([(0, 11, "part", "")], "let a = 1 +")
        self.told([(0, 9, "part", "")], "let a = []")
        self.told([(0, 12, "part", ""), (0, 17, "part", "")], "let a = [1, , 2, ]")

    def test_extra(self):
        self.told([(0, 10, "extra", "")], "let a = 1 2 3 x let")
        self.told([(0, 8, "extra", "")], "take bb take bb", "")
        self.told([(0, 9, "extra", "")], "let a = 1)")

    def test_sign(self):
        self.told([(0, 6, "sign", "=")], "let a 1")
        self.told([(0, 10, "sign", ")")], "let a = (1")
        self.told([(0, 10, "sign", "]")], "let a = [1")
        self.told([(0, 15, "sign", "then"), (0, 17, "sign", "else")], "let a = if yes 1 2")
        self.told([(0, 6, "sign", "("), (0, 12, "sign", ")")], "def f a num = a")
        self.told([(0, 13, "sign", "="), (1, 11, "sign", ")")], "def f(a num) a\nlet b = f(a\nlet a = 1")

    def test_where_there_is_no_token_at_the_rows_end(self):
        self.told([(0, 3, "name", ""), (0, 3, "part", ""), (0, 3, "sign", "=")], "let")
        self.told([(0, 5, "name", ""), (0, 5, "part", ""), (0, 5, "sign", "=")], "let  ")
        self.told([(0, 3, "name", ""), (0, 3, "told", ""), (0, 3, "part", ""), (0, 3, "sign", "("), (0, 3, "sign", ")"),
                   (0, 3, "sign", "=")], "def")
        self.told([(0, 5, "name", "")], " take")
        self.told([(0, 12, "sign", ")")], "let a = (1  ")

    def test_each_one_told_once(self):
        self.told([(0, 10, "part", ""), (0, 10, "sign", "else"), (0, 10, "sign", "then")], "let a = if")
        self.told([(0, 10, "part", ""), (0, 10, "sign", ")")], "let a = ((")
        self.told([(0, 9, "part", ""), (0, 9, "sign", "]")], "let a = [")
        self.told([(0, 10, "unfit", ("num", "word"))], 'let a = ( "x" + 1 )')

    def test_odd(self):
        self.told([(0, 0, "start", ""), (0, 0, "odd", "")], "?")
        self.told([(1, 0, "start", ""), (1, 2, "odd", ""), (1, 12, "odd", ""), (1, 20, "odd", "")],
                  'let a = 1\nx abcdefghi 1234567 "y')
        self.told([(0, 8, "part", ""), (0, 8, "extra", ""), (0, 8, "odd", "")], "let a = ;")
        self.told([(0, 8, "extra", ""), (0, 8, "odd", ""), (0, 10, "odd", "")], "take bb ; ;", "")
        self.told([(0, 5, "name", ""), (0, 5, "extra", ""), (0, 5, "odd", "")], "take abcdefghi", "")
        self.told([(0, 4, "name", ""), (0, 4, "part", ""), (0, 4, "extra", ""), (0, 4, "sign", "="), (0, 4, "odd", "")],
                  "let A")

    def test_nofile(self):
        self.told([(0, 5, "nofile", "")], "take aa", "")
        self.told([(0, 5, "nofile", "")], "take cc", "")
        self.told([(0, 5, "nofile", ""), (1, 6, "nofile", "")], "take a\ntake  bbb\ntake bb", "")
        self.told([(0, 4, "name", "")], "take", "")
        self.told([(0, 5, "nofile", ""), (0, 8, "extra", "")], "take zz bb", "")

    def test_twice(self):
        self.told([(1, 4, "twice", ""), (2, 4, "twice", "")], "let a = 1\nlet a = 2\ndef a(b num) = b")
        self.told([], "let a = 1", "let a = 2")
        self.told([(0, 13, "twice", "")], "def f(a num, a word) = a")
        self.told([(0, 13, "twice", ""), (0, 21, "twice", "")], "def f(a num, a word, a num) = a")
        self.told([(0, 7, "told", ""), (0, 9, "twice", ""), (0, 10, "told", "")], "def f(a, a) = 1")
        self.told([], "def f(f num) = f\nlet g = 1\ndef h(g num, h num) = g")
        self.told([(1, 4, "twice", ""), (1, 13, "twice", "")], "let f = 1\ndef f(a num, a num) = 1")

    def test_unknown(self):
        self.part("zz", [(0, "unknown", "")])
        self.part("zz(1)", [(0, "unknown", "")])
        self.part("[zz, zz(yy), 1]", [(1, "unknown", ""), (5, "unknown", ""), (8, "unknown", "")])
        self.told([(0, 8, "unknown", "")], "let a = b", "let b = 1")
        self.told([(1, 8, "unknown", "")], "take bb\nlet a = c", "take cc\nlet b = 1", "let c = 1")
        self.told([(1, 8, "unknown", "")], "def f(a num) = a\nlet b = a")
        self.told([(0, 8, "unknown", ""), (1, 4, "name", "")], "let a = b\nlet = 1")

    def test_unclear(self):
        row = "let a = 1"
        self.told([(2, 8, "unclear", "")], "take bb\ntake cc\nlet b = a", row, row)
        self.told([(0, 8, "unclear", ""), (0, 12, "unclear", "")], "let b = a + a(1)\ntake cc\ntake bb\ntake dd", row, row,
                  "def a(b num) = b")
        self.told([], "take bb\ntake cc\nlet a = 2\nlet b = a", row, row)
        self.told([], "take bb\ntake cc\ndef b(a num) = a", row, row)
        self.told([], "take bb\nlet b = a", row, row)
        self.told([], "take bb\ntake bb\nlet b = a", row, row)
        self.told([(2, 8, "unknown", "")], "take bb\ntake cc\nlet b = z", row, row)

    def test_value(self):
        rows = ["def f(a num) = a", "let n = 1"]
        self.part("f", [(0, "value", "")], *rows)
        self.part("f + f(f)", [(0, "value", ""), (6, "value", "")], *rows)
        self.part("n + n", [], *rows)
        self.told([(0, 4, "ring", ""), (0, 15, "value", "")], "def f(a num) = f")
        self.told([(1, 8, "value", "")], "take bb\nlet a = f", "def f(a num) = a")

    def test_call(self):
        self.part("n(1)", [(0, "call", "")], "let n = 1")
        self.part("n(zz)", [(0, "call", ""), (2, "unknown", "")], "let n = 1")
        self.told([(0, 15, "call", "")], "def f(a num) = a(a)")
        self.told([(0, 15, "call", "")], "def f(f num) = f(f)")
        self.told([(1, 8, "call", "")], "take bb\nlet a = b(1)", "let b = 1")

    def test_count(self):
        rows = ["def f(a num, b word) = a", "def g(a) = 1"]
        self.part("f(1)", [(0, "count", (2, 1))], *rows)
        self.part("f(yes, yes, yes)", [(0, "count", (2, 3))], *rows)
        self.part("f()", [(0, "count", (2, 1)), (2, "part", "")], *rows)
        self.part("g(1, 2)", [(0, "count", (1, 2))], *rows)
        self.part("g(1)", [], *rows)
        self.told([(0, 8, "count", (1, 2)), (1, 5, "name", ""), (1, 5, "told", ""), (1, 5, "part", ""),
                   (1, 5, "sign", "("), (1, 5, "sign", ")"), (1, 5, "sign", "=")], "let a = f(1, 2)\ndef f")

    def test_unfit_of_signs(self):
        for sign in ("+", "-", "*", "<"):
            self.part('"x" ' + sign + " yes", [(0, "unfit", ("num", "word")), (6, "unfit", ("num", "flag"))])
        self.part("1 & [yes]", [(0, "unfit", ("word", "num")), (4, "unfit", ("word", "flags"))])
        self.part('1 = "x"', [(4, "unfit", ("num", "word"))])
        self.part('zz = "x"', [(0, "unknown", "")])
        self.part("[1] = [yes]", [(6, "unfit", ("nums", "flags"))])
        self.part("1 at 0", [(0, "unfit", ("many", "num"))])
        self.part("[1] at [1]", [(7, "unfit", ("num", "nums"))])
        self.part('"x" at yes', [(0, "unfit", ("many", "word")), (7, "unfit", ("num", "flag"))])
        self.part("zz at zz", [(0, "unknown", ""), (6, "unknown", "")])

    def test_unfit_in_lists(self):
        self.part('[1, "x", yes]', [(4, "unfit", ("num", "word")), (9, "unfit", ("num", "flag"))])
        self.part('[zz, "x", 1]', [(1, "unknown", ""), (10, "unfit", ("word", "num"))])
        self.part("[[1], 2]", [(1, "unfit", ("num", "nums"))])
        self.part("[[1], [yes]]", [(1, "unfit", ("one", "nums")), (6, "unfit", ("one", "flags"))])
        self.part("[zz, [1]]", [(1, "unknown", ""), (5, "unfit", ("one", "nums"))])

    def test_unfit_in_ifs(self):
        self.part("if 1 then 2 else 3", [(3, "unfit", ("flag", "num"))])
        self.part('if yes then 2 else "x"', [(19, "unfit", ("num", "word"))])
        self.part('if yes then zz else "x"', [(12, "unknown", "")])
        self.part("if zz then 1 else zz", [(3, "unknown", ""), (18, "unknown", "")])

    def test_unfit_in_calls(self):
        rows = ["def f(a num, b word, c, d flags) = a", "def r(a num) = r(a)"]
        self.part("f(yes, 1, 2, [1])", [(2, "unfit", ("num", "flag")), (7, "unfit", ("word", "num")),
                                         (13, "unfit", ("flags", "nums"))], *rows)
        self.part("f(yes, 1)", [(0, "count", (4, 2))], *rows)
        self.part("r(yes)", [(2, "unfit", ("num", "flag"))], *rows)
        self.told([(1, 10, "unfit", ("num", "word"))], 'take bb\nlet a = f("x")', "def f(n num) = n")

    def test_unfit_at_the_leftmost_token(self):
        self.part("(1 + 2) & 3", [(0, "unfit", ("word", "num")), (10, "unfit", ("word", "num"))])
        self.part("[1] & 3 = 4", [(0, "unfit", ("word", "nums")), (6, "unfit", ("word", "num")),
                                  (10, "unfit", ("word", "num"))])
        self.part("1 & 2 + 3", [(0, "unfit", ("num", "word")), (0, "unfit", ("word", "num")), (4, "unfit", ("word", "num"))])
        self.part('f(1, 1) & ""', [(0, "unfit", ("word", "num"))], "def f(a num, b num) = a")
        self.part('"" & if yes then 1 else 2', [(5, "unfit", ("word", "num"))])
        self.part('("" & (1))', [(6, "unfit", ("word", "num"))])
        self.part("+ 1 & 2", [(0, "part", ""), (0, "unfit", ("word", "num")), (6, "unfit", ("word", "num"))])
        self.part('[1, & "x"]', [(4, "part", ""), (4, "unfit", ("num", "word"))])
        self.part('if + 1 then + 1 else & "x"', [
            (3, "part", ""), (3, "unfit", ("flag", "num")), (12, "part", ""), (21, "part", ""), (21, "unfit", ("num", "word"))])

    def test_holes_are_never_unfit(self):
        self.part("1 +", [(3, "part", "")])
        self.part("& 1", [(0, "part", ""), (2, "unfit", ("word", "num"))])
        self.part("at 1", [(0, "part", "")])
        self.part("[1, ]", [(4, "part", "")])
        self.part("if then 1 else", [(3, "part", ""), (14, "part", "")])

    def test_ring(self):
        self.told([(0, 4, "ring", "")], "let a = a")
        self.told([(0, 4, "ring", ""), (1, 4, "ring", "")], "let a = b\nlet b = [a]\nlet c = a")
        self.told([(0, 4, "ring", "")], "def f(n num) = if n < 1 then 0 else f(n - 1)")
        where = house("take bb\nlet a = b", "take cc\nlet b = c", "take aa\nlet c = a\nlet d = a")
        same(self, faults(where), [((file * 2, 1, 4), "ring", "") for file in "abc"])
        self.told([(1, 4, "twice", "")], "let a = 1\nlet a = a")
        self.told([(0, 4, "ring", ""), (0, 13, "twice", "")], "def f(a num, a num) = f(a, a)")

    def test_rows_that_make_nothing_are_looked_at_likewise(self):
        self.told([(1, 4, "twice", ""), (1, 8, "unknown", ""), (1, 12, "unfit", ("num", "word"))], 'let a = 1\nlet a = z + "x"')
        self.told([(0, 4, "name", ""), (0, 6, "unfit", ("num", "flag"))], "let = yes + 1")
        self.told([(0, 4, "name", ""), (0, 14, "unfit", ("word", "num"))], 'def (a num) = a & ""')

    def test_rows_with_stops_are_looked_at_likewise(self):
        self.told([(0, 6, "sign", "="), (0, 6, "unfit", ("num", "flag"))], "let a yes + 1")
        self.told([(0, 9, "unknown", ""), (0, 10, "sign", ")")], "let a = (z")
        self.told([(0, 8, "unknown", ""), (0, 10, "extra", "")], "let a = z z")
        self.told([(0, 8, "value", ""), (1, 6, "sign", "("), (1, 11, "part", ""), (1, 11, "sign", ")"), (1, 11, "sign", "=")],
                  "let a = f\ndef f a num")

    def test_what_is_rising(self):
        self.told([(0, 3, "name", ""), (0, 3, "told", ""), (0, 3, "part", ""), (0, 3, "sign", "("), (0, 3, "sign", ")"),
                   (0, 3, "sign", "=")], "def")
        self.part('1 & 2 + "x" & 3', [
            (0, "unfit", ("num", "word")), (0, "unfit", ("word", "num")), (4, "unfit", ("word", "num")),
            (8, "unfit", ("num", "word")), (14, "unfit", ("word", "num"))])
        self.part("[1] at 0 & 2 + 3", [
            (0, "unfit", ("num", "word")), (0, "unfit", ("word", "num")), (11, "unfit", ("word", "num"))])

    def test_order_of_files_rows_and_columns(self):
        texts = ("let a = z\n?", "let b = y + y", "?")
        wanted = [(("aa", 0, 8), "unknown", ""), (("aa", 1, 0), "start", ""), (("aa", 1, 0), "odd", ""),
                  (("bb", 0, 8), "unknown", ""), (("bb", 0, 12), "unknown", ""), (("cc", 0, 0), "start", ""),
                  (("cc", 0, 0), "odd", "")]
        same(self, faults(house(*texts)), wanted)
        same(self, faults(house(*texts)[::-1]), wanted[5:] + wanted[3:5] + wanted[:3])

    def test_order_of_words_at_one_place(self):
        met = {}
        for text in ("let", "def", "let a = ;", "?", "take abcdefghi", "let f = 1\ndef f(a, a num) = z(", "def f(1) = 1",
                     "let a = 1\nlet a = [z + b] + b & 1", "take zz ;", "let a = + 1 & 2 ]", "def a(b num) = a + a(1, 2) at b(1)"):
            for place, word, what in faults(house(text)):
                met.setdefault((text, place), []).append(oracle_faults.ORDER.index(word))
        for told in met.values():
            self.assertEqual(told, sorted(told))
        self.assertGreater(max(len(told) for told in met.values()), 3)

    def test_lists_for_tuples(self):
        where = house("take bb\nlet a = z + b(1)", "def b(c num, d num) = a")
        same(self, faults(listed(where)), faults(where))
        same(self, faults(house=[list(pair) for pair in where]), faults(where))

    def test_handed_in_stays_and_told_anew(self):
        where = listed(house("let a = z + f(1)\ndef f(a, b) = a"))
        told_anew(self, lambda: faults(where))
        self.assertEqual(where, listed(house("let a = z + f(1)\ndef f(a, b) = a")))

    def test_as_the_oracle_tells_it(self):
        chance = random.Random(21)
        met = set()
        for _ in range(250):
            where = faulty_house(chance)
            told = faults(where)
            same(self, told, oracle_faults.faults(where))
            met.update(word for _, word, _ in told)
        self.assertEqual(met, set(oracle_faults.ORDER))

    def test_great_houses(self):
        chance = random.Random(22)
        begun = time.perf_counter()
        for _ in range(3):
            where = full_house(chance)
            self.assertIs(is_house(where), True)
            told = faults(where)
            self.assertGreater(len(told), 60)
            same(self, told, oracle_faults.faults(where))
        self.assertLess(time.perf_counter() - begun, 60)


if __name__ == "__main__":
    unittest.main()
