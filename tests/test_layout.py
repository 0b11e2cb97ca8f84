"""Point [7]: rows laid out."""

import random
import unittest

from helpers import same
from typedahead import layout
from typedahead.layout import laid, laid_text
from typedahead.texts import is_text, rows_of
from typedahead.tokens import tokens
from typedahead.trees import stops, tree

LAID = [
    ("", ""),
    ("   ", ""),
    ("take   lib", "take lib"),
    ("  take lib ", "take lib"),
    ("let a=1", "let a = 1"),
    ("let   a  =  1  ", "let a = 1"),
    ('let a="x  y"', 'let a = "x  y"'),
    ('let a="("&")"', 'let a = "(" & ")"'),
    ("let a=b+c*d", "let a = b + c * d"),
    ("let a=1-2<3", "let a = 1 - 2 < 3"),
    ("let a = ( 1 )", "let a = (1)"),
    ("let a=((1)+(2))", "let a = ((1) + (2))"),
    ("let a = [ 1 ,2 , 3 ]", "let a = [1, 2, 3]"),
    ("let a=[[1],[2]]", "let a = [[1], [2]]"),
    ("let a=[(1),f (2)]", "let a = [(1), f(2)]"),
    ("let a = f ( 1 ,b )", "let a = f(1, b)"),
    ("let a=f(g(1))+h(2)", "let a = f(g(1)) + h(2)"),
    ("let a=[1]at 0", "let a = [1] at 0"),
    ("let a=[1]at(0)", "let a = [1] at (0)"),
    ("let a=if(b)then(c)else(d)", "let a = if (b) then (c) else (d)"),
    ("let a=if[yes]at 0 then[1]else[2]", "let a = if [yes] at 0 then [1] else [2]"),
    ("let a=1+(2)", "let a = 1 + (2)"),
    ("let a=b*(c)", "let a = b * (c)"),
    ("let a=b&[c]at 1", "let a = b & [c] at 1"),
    ("def f ( a num ,b words )=a", "def f(a num, b words) = a"),
    ("def f(a num)=(a)", "def f(a num) = (a)"),
    ("let a = 1", "let a = 1"),
]

STAY = [
    "x", " x  y", "let", "let  a =", " let a = (1", "let  a = 1 2", "def  f() = 1", "take", "take  a b", "let a = 1==2",
    "let a=(1))", 'let a="x', "let a=1;", "let a=[ ]", "1+1", " ) ", "let a=f( )", "let  a=if b then c",
]


class TestLaid(unittest.TestCase):
    def test_defined_in_their_file(self):
        self.assertEqual((laid.__module__, laid_text.__module__), (layout.__name__, layout.__name__))

    def test_told(self):
        for row, wanted in LAID:
            same(self, laid(row), wanted)

    def test_rows_with_stops_stay(self):
        for row in STAY:
            self.assertNotEqual(stops(row), [])
            same(self, laid(row), row)

    def test_just_60_signs_and_more(self):
        for last, wanted in (("", 57), ("2", 58), ("22", 59), ("222", 60)):
            row = "let a=" + "+".join(["1"] * 13) + last
            told = laid(row)
            self.assertEqual(len(told), wanted)
            self.assertEqual(told, "let a = " + " + ".join(["1"] * 13) + last)
        for last in ("2222", "22222"):
            row = "let a=" + "+".join(["1"] * 13) + last
            same(self, laid(row), row)

    def test_full_rows(self):
        row = "let a = 1" + " " * 51
        self.assertEqual(len(row), 60)
        same(self, laid(row), "let a = 1")
        row = "let a=b" + "+b" * 26
        self.assertEqual(len(row), 59)
        same(self, laid(row), row)

    def test_tree_stays_and_once_more_it_is_the_same(self):
        for row in [row for row, _ in LAID] + STAY + chance_rows():
            told = laid(row)
            same(self, tree(told), tree(row))
            same(self, laid(told), told)
            if not stops(row):
                self.assertEqual([token[:2] for token in tokens(told)], [token[:2] for token in tokens(row)])

    def test_blanks_by_what_stands_beside_them(self):
        met = 0
        for row in [row for row, _ in LAID] + chance_rows():
            if not stops(row) and len(self.parted(row)) <= 60:
                met += 1
                same(self, laid(row), self.parted(row))
        self.assertGreater(met, 100)

    def parted(self, row):
        """The row's tokens, all parted by a blank, and then those blanks that don't belong left out."""
        found = tokens(row)
        out = ""
        for left, right in zip([None, *found], found):
            bare = left is None or left[1] in ("(", "[") or right[1] in (")", "]", ",")
            bare = bare or (left[0] == "name" and right[1] == "(")
            out += right[1] if bare else " " + right[1]
        return out

    def test_argument_by_its_name(self):
        same(self, laid(row="let a=1"), "let a = 1")
        same(self, laid_text(text="let a=1"), "let a = 1")


class TestLaidText(unittest.TestCase):
    def test_row_by_row(self):
        same(self, laid_text(""), "")
        same(self, laid_text("  "), "")
        same(self, laid_text("\n"), "\n")
        same(self, laid_text("let a=1\nlet  b\n  \nlet c=[ 1 ]\n"), "let a = 1\nlet  b\n\nlet c = [1]\n")

    def test_each_by_itself(self):
        rows = [row for row, _ in LAID][:12] + STAY[:12]
        text = "\n".join(rows)
        self.assertIs(is_text(text), True)
        same(self, laid_text(text), "\n".join([laid(row) for row in rows]))
        self.assertEqual(rows_of(laid_text(text)), [laid(row) for row in rows])
        same(self, laid_text(laid_text(text)), laid_text(text))

    def test_a_row_that_stays_keeps_no_other_one(self):
        long = "let a=" + "b+" * 26 + "b"
        same(self, laid_text(long + "\nlet a=1\n x"), long + "\nlet a = 1\n x")


def chance_rows():
    chance = random.Random(8)
    words = ("a", "f(", "1", "(1)", "+", "=", "at", ",", "[2]", ")", '"x  y"', "if a then b else c", " ", "  ")
    return ["let a=" + "".join(chance.choice(words) for _ in range(chance.randrange(1, 7))) for _ in range(3000)]


if __name__ == "__main__":
    unittest.main()
